import PyProof.Rows.All
import Wide.All
import OpenK.AllK
import Wide.FinOn
import Lean
import PyProof.EqAt
import PyProof.EqKinds
import PyProof.TupleCall
import PySem.Str
import PySem.Sem
import PyProof.StrWalks
import PyProof.ReprReads
import PyProof.ReprRoads
import PyProof.NeData
import PyProof.WalkInts
import PyProof.Rows.RegStrFacts
import PyProof.StrBlockI
import KE.IntText
import KE.KRevIter
import PyProof.StrBlock2
import KE.KIntText
import PyProof.Rows.Range3
import PyProof.ZipIter
import PyProof.Draws
import PyProof.IsRules
import PySem.SetOps
import PyProof.SetKind
import PyProof.DictStraight
import KE.KDictSum
import PyProof.Rows.SetFrom
import PyProof.Rows.SortShell
import PyProof.ListRange
import PyProof.Rows.FactsT2
import PyProof.Rows.FactsT3
import PySem.Builtin.Str.Common
import PyProof.StrCalls
import PyProof.SumWalk
import KE.KLam
import PyProof.StrLawsIn
import PyProof.FitsReplace
import PyProof.ReprLen
import PySem.Challenge.RW_handwatch_k62_whole_asked_twice
section
open PySem PySem.Spec PyProof.Rows
abbrev N7:=Option
abbrev N8:=Value
abbrev N9:=Addr
abbrev N_:=PySem.W.Frag
abbrev Oa:=Shared
abbrev Ob:=@wpAny_bind
abbrev Oc:=@Option.bind_some
abbrev Od:=@List.mem_singleton
abbrev Oe:=@Bool.and_eq_true
abbrev Of:=@if_pos
abbrev Og:=@Heap.get?_push_of_some
abbrev Oh:=Program
abbrev Oi:=@Bool.false_ne_true
abbrev Oj:=@List.mem_cons
abbrev Ol:=@Nat.lt_of_lt_of_le
abbrev Om:=@Heap.lt_size
abbrev On:=@List.size_toArray
abbrev Oo:=@Nat.le_refl
abbrev Oq:=@PySem.W.mg_of
abbrev Ot:=World
abbrev Ou:=@wpAny_pure
abbrev Ov:=@if_neg
abbrev Ow:=@Option.some.inj
abbrev Ox:=@Heap.get?_push_size
abbrev Oy:=@List.mem_cons_of_mem
abbrev Oz:=@List.all_eq_true
abbrev OA:=@absurd
abbrev OC:=Heap
abbrev OE:=Stmt
abbrev OG:=Expr
abbrev OH:=@Nat.le_trans
abbrev OI:=@List.getElem?_eq_some_iff
abbrev OJ:=Around
abbrev OK:=@List.length_map
abbrev OL:=@Nat.ne_of_lt
abbrev OM:=@List.mem_append_right
abbrev ON:=@List.mem_cons_self
abbrev OO:=@decide_eq_false
abbrev OP:=@beq_eq_false_iff_ne
abbrev OQ:=@List.append_nil
abbrev OT:=@List.getElem?_append_right
abbrev OU:=@List.getD_eq_getElem?_getD
abbrev OV:=FuncData
abbrev OW:=@List.length_append
abbrev OX:=@Nat.lt_irrefl
abbrev OY:=@Heap.get?_update_other
abbrev OZ:=@Int.emod_lt_of_pos
abbrev O0:=@PySem.mem_of_lookup
abbrev O1:=@Int.emod_nonneg
abbrev O2:=@List.all_cons
abbrev O3:=@List.mem_append_left
abbrev O4:=@List.getElem?_append_left
abbrev O5:=@List.getElem?_set_self
abbrev O6:=@List.getElem?_map
abbrev O7:=@List.mem_of_getElem?
abbrev O8:=@List.getElem?_set_ne
abbrev O9:=@List.length_cons
abbrev O_:=@of_decide_eq_true
abbrev Pa:=@decide_eq_true
abbrev Pb:=@List.map_cons
abbrev Pc:=@wpAny_Call_Name_kw
abbrev Pd:=@wpAny_newObj_type
abbrev Pe:=@wpAny_mono
abbrev Pf:=@Array.length_toList
abbrev Pg:=@Nat.zero_le
abbrev Ph:=@List.drop_eq_getElem_cons
abbrev Pi:=@List.mem_append
abbrev Pj:=@List.length_take
abbrev Pk:=@List.length_set
abbrev Pl:=@beq_iff_eq
abbrev Pm:=@Heap.get?_update_self
abbrev Pn:=@eq_of_beq
abbrev Po:=@Nat.lt_succ_self
abbrev Pp:=@codeAny_builtin
abbrev Pq:=@Array.getElem?_eq_getElem
abbrev Pt:=@List.getElem?_eq_none
abbrev Pu:=@List.length_drop
end
set_option Elab.async false
noncomputable section
set_option linter.all false
set_option maxRecDepth 100000
namespace L2
open PySem PySem.Spec PyProof.Rows
abbrev Key:=Sum Int Str
noncomputable def HS:Key->N8->Bool
 | .inl k,v=>Value.isInt k v
 | .inr x,v=>Value.isStrOf x v
def MN(w:Ot):Key->Int
 | .inl k=>hashInt k
 | .inr x=>hashStr w x
theorem sj:∀{k:Key} {v:N8},HS k v=true->(∃i t,k=Sum.inl i/\v=Value.int i t)\/(∃x t,k=Sum.inr x/\v=Value.str x t)
 | .inl i,v,h=>by
  obtain⟨t,e⟩:=Value.isInt_shape (k:=i) (v:=v) h
  exact .inl ⟨i,t,rfl,e⟩
 | .inr x,v,h=>by
  obtain⟨t,e⟩:=Value.isStrOf_shape (x:=x) (v:=v) h
  exact .inr ⟨x,t,rfl,e⟩
theorem Ja(a b:Int):decide ((Sum.inl a:Key)=Sum.inl b)=(a==b):=by
 by_cases e:a=b
 ·subst e;simp
 ·have h:¬ (Sum.inl a:Key)=Sum.inl b:=fun q=>e (Sum.inl.inj q)
  rw[OO h]
  exact(OP.mpr e).symm
theorem IH(a b:Str):decide ((Sum.inr a:Key)=Sum.inr b)=decide (a=b):=by
 by_cases e:a=b
 ·subst e;simp
 ·have h:¬ (Sum.inr a:Key)=Sum.inr b:=fun q=>e (Sum.inr.inj q)
  rw[OO h,OO e]
theorem Ju(a:Int)(b:Str):decide ((Sum.inl a:Key)=Sum.inr b)=false:=OO (fun q=>nomatch q)
theorem IY(a:Str)(b:Int):decide ((Sum.inr a:Key)=Sum.inl b)=false:=OO (fun q=>nomatch q)
def yw(prog:Oh)(w:Ot):PySem.KeyKind prog w Key where
 is:=HS
 hash:=MN w
 inj:=fun v a b ha hb=>by
  rcases sj ha with ⟨i,t,rfl,rfl⟩ | ⟨x,t,rfl,rfl⟩
  ·rcases sj hb with ⟨j,u,rfl,e⟩ | ⟨y,u,rfl,e⟩
   ·injection e with e1 _;rw[e1]
   ·exact nomatch e
  ·rcases sj hb with ⟨j,u,rfl,e⟩ | ⟨y,u,rfl,e⟩
   ·exact nomatch e
   ·injection e with e1 _;rw[e1]
 byValue:=fun k v h=>by
  rcases sj h with ⟨i,t,rfl,rfl⟩ | ⟨x,t,rfl,rfl⟩<;>rfl
 pyHash:=fun hv h=>by
  rcases sj hv with ⟨i,t,rfl,rfl⟩ | ⟨x,t,rfl,rfl⟩
  ·exact wpAny_pyHash_int h
  ·exact wpAny_pyHash_str h
 eqBool:=fun hu hv h=>by
  rcases sj hu with ⟨i,t,rfl,rfl⟩ | ⟨x,t,rfl,rfl⟩
  ·rcases sj hv with ⟨j,u,rfl,rfl⟩ | ⟨y,u,rfl,rfl⟩
   ·rw[Ja] at h;exact wpAny_eqBool_int h
   ·rw[Ju] at h;exact SeqAt.EqAt.int_str i t y u _ _ _ _ h
  ·rcases sj hv with ⟨j,u,rfl,rfl⟩ | ⟨y,u,rfl,rfl⟩
   ·rw[IY] at h;exact SeqAt.EqAt.str_int x t j u _ _ _ _ h
   ·rw[IH] at h;exact wpAny_eqBool_str h
 «strs»:=fun k x t v h=>by
  rcases sj h with ⟨i,u,rfl,e⟩ | ⟨y,u,rfl,e⟩
  ·exact nomatch e
  ·injection e with e1 _
   subst e1
   cases v<;>rfl
end L2
namespace L2
open PySem PySem.Spec PyProof.Rows
inductive V where
 | non | bl (b:Bool) | int (i:Int) | str (x:Str) | byt (b:Array UInt8) | flt (b:UInt64) | ref (a:N9) | ty (n:String)
 deriving DecidableEq
def RelV:V->N8->Prop
 | .non,u=>u=Value.none
 | .bl b,u=>u=Value.bool b
 | .int i,u=>∃t,u=Value.int i t
 | .str x,u=>∃t,u=Value.str x t
 | .byt b,u=>∃t,u=Value.bytes b t
 | .flt b,u=>∃t,u=Value.float b t
 | .ref a,u=>u=Value.ref a
 | .ty n,u=>u=Value.type n
abbrev l4:List V->List N8->Prop:=Paired RelV
theorem l4.length{xs:List V}{us:List N8}(r:l4 xs us):xs.length=us.length:=Paired.length r
theorem l4.get:∀{xs:List V} {us:List N8} {i:Nat} {x:V},l4 xs us->xs[i]?=some x->∃u,us[i]?=some u/\RelV x u
 | _,_,_,_,.nil,e=>by simp at e
 | _,_,0,_,.cons r _,e=>by simp at e;subst e;exact⟨_,rfl,r⟩
 | _,_,i+1,x,.cons _ t,e=>by
  obtain⟨u,h1,h2⟩:=l4.get (i:=i) (x:=x) t (by simpa using e)
  exact⟨u,by simpa using h1,h2⟩
theorem l4.set{x:V}{u:N8}(r:RelV x u):∀{xs:List V} {us:List N8} (i:Nat),l4 xs us->l4 (xs.set i x) (us.set i u)
 | _,_,_,.nil=>.nil
 | _,_,0,.cons _ t=>.cons r t
 | _,_,i+1,.cons q t=>.cons q (l4.set r i t)
theorem l4.append:∀{xs ys:List V} {us ws:List N8},l4 xs us->l4 ys ws->l4 (xs++ys) (us++ws)
 | _,_,_,_,.nil,s=>s
 | _,_,_,_,.cons r t,s=>.cons r (l4.append t s)
theorem l4.take:∀{xs:List V} {us:List N8} (n:Nat),l4 xs us->l4 (xs.take n) (us.take n)
 | _,_,0,_=>.nil
 | _,_,_+1,.nil=>.nil
 | _,_,n+1,.cons r t=>.cons r (l4.take n t)
theorem l4.drop:∀{xs:List V} {us:List N8} (n:Nat),l4 xs us->l4 (xs.drop n) (us.drop n)
 | _,_,0,r=>r
 | _,_,_+1,.nil=>.nil
 | _,_,n+1,.cons _ t=>l4.drop n t
theorem l4.none_of:∀{xs:List V} {us:List N8} {i:Nat},l4 xs us->xs[i]?=none->us[i]?=none:=fun {xs us i} r e=>by
 have h1:=r.length
 have h2:xs.length<=i:=List.getElem?_eq_none_iff.mp e
 exact List.getElem?_eq_none_iff.mpr (by omega)
def wA:N7 V->N7 N8->Prop
 | some v,some u=>RelV v u
 | none,none=>True
 | _,_=>False
def KV{κ:Type}:List (κ×V)->List (κ×N8)->Prop:=Paired fun (p:κ×V) (q:κ×N8)=>p.1=q.1/\RelV p.2 q.2
def kV:Key->V
 | .inl i=>.int i
 | .inr x=>.str x
inductive HO where
 | lst (xs:List V)
 | tup (xs:List V)
 | dK (kvs:List (Key×V)) | dT (kvs:List (List Key×V))
 | set (S:Int->Bool) (n:Nat)
 | ins (C dx:N9) (fs:List (Str×V))
 | own (x:N9)
 | xd (fs:List (Str×V))
 | met (f x:N9)
 | rng (lo hi:Int)
 | frz (o:Obj) (u:HO)
 | tbl (q:Str) (c:Bool)
 | ext (φ:OC->Prop)
abbrev Hp:=N9->N7 HO
def upd(H:Hp)(a:N9)(o:HO):Hp:=fun b=>if b=a then some o else H b
theorem av{H:Hp}{a:N9}{o:HO}:upd H a o a=some o:=by unfold upd;rw[Of rfl]
theorem aq{H:Hp}{a b:N9}{o:HO}(h:b≠a):upd H a o b=H b:=by unfold upd;rw[Ov h]
theorem so{H:Hp}{a b:N9}{o:HO}(h:H a=some o)(h':H b=none):a≠b:=by
 intro e;subst e;rw[h] at h';cases h'
def uY(h:OC)(a:N9)(its:Array N8):Prop:=∃o,h.get? a=some o/\o.cls=.type "tuple" /\ (∃n,o.data=.seq its n)/\o.dict=none
theorem uY.is{h:OC}{a:N9}{its:Array N8}(x:uY h a its):IsTup h a its:=by obtain⟨o,e,c,d,_⟩:=x;exact⟨o,e,c,d⟩
theorem uY.lt{h:OC}{a:N9}{its:Array N8}(x:uY h a its):a<h.objs.size:=x.is.lt
theorem uY.new(h:OC)(its:Array N8):uY (h.push {cls:=.type "tuple",data:=.seq its}) h.objs.size its:=⟨_,Ox _ rfl,rfl,⟨_,rfl⟩,rfl⟩
section
variable(P:Oh)(w:Ot)
def tK(H:Hp)(h:OC)(a:N9):HO->Prop
 | .lst xs=>xs.length<=sizeLine/\∃(its:List N8) (n:Nat),l4 xs its/\h.get? a=some {cls:=.type "list",data:=.seq its.toArray n}
 | .tup xs=>xs.length<=sizeLine/\∃its:List N8,l4 xs its/\uY h a its.toArray
 | .dK kvs=>kvs.length<=sizeLine/\(a==sysModules)=false/\∃vs,KV kvs vs/\h.DictOf (yw P w) a vs
 | .dT kvs=>kvs.length<=sizeLine/\(a==sysModules)=false/\∃xs:List (List Key×N9×N8),
   Paired (fun (p:List Key×V) (q:List Key×N9×N8)=>p.1=q.1/\H q.2.1=some (.tup (p.1.map kV))/\RelV p.2 q.2.2) kvs xs /\
   ∃o es ep,h.get? a=some o/\o.ExactDict/\o.data=.dict es ep/\es.toList=xs.map (entryOfKey (tupleKind (yw P w)))/\(xs.map (·.1)).Nodup
 | .set S n=>h.SetOf (intKind P w) a S n
 | .ins C dx fs=>H dx=some (.own a)/\fs.length<=1000/\dx≠a/\h.get? a=some (PySem.W.instObj C dx) /\
   ∃mA,h.Ns1 dx mA/\(∀f,wA (fs.lookup f) (mA f))/\PySem.Within mA (fs.map (·.1))
 | .own _=>∃o,h.get? a=some o
 | .xd fs=>∃mA,h.Ns1 a mA/\∀f,wA (fs.lookup f) (mA f)
 | .rng lo hi=>∃t u v,h.get? a=some {cls:=.type "range",data:=.fields #[.int lo t,.int hi u,.int 1 v]}
 | .frz o u=>h.get? a=some o/\tK H h a u
 | .tbl q true=>h.CodeRec (.ref a) q
 | .tbl q false=>∃ts:Array N8,h.get? a=some {cls:=.none,data:=.fields ts}/\TriplesOk ts.toList/\∀(pos:Pos) (cv:N8),codeAmong pos ts.toList=some cv->∃c,cv=.ref c/\H c=some (.tbl q true)
 | .met f x=>h.get? a=some (PySem.W.methodObj (.ref f) (.ref x))
 | .ext φ=>φ h/\(∃o,h.get? a=some o)/\∀h1 h2:OC,φ h1->(∀o,h1.get? a=some o->h2.get? a=some o)->φ h2
def wF(H:Hp)(h:OC):Prop:=∀a o,H a=some o->tK P w H h a o
end
section
variable{P:Oh}{w:Ot}{H H':Hp}{h h':OC}{a:N9}{o:HO}
theorem tK.lt(x:tK P w H h a o):a<h.objs.size:=by
 cases o with
 | lst xs=>obtain⟨_,_,_,_,e⟩:=x;exact Om e
 | tup xs=>obtain⟨_,_,_,p⟩:=x;exact p.lt
 | dK kvs=>obtain⟨_,_,_,_,o,_,_,e,_⟩:=x;exact Om e
 | dT kvs=>obtain⟨_,_,_,_,o,_,_,e,_⟩:=x;exact Om e
 | set S n=>obtain⟨o,_,_,_,e,_⟩:=x;exact Om e
 | ins C dx fs=>obtain⟨_,_,_,e,_⟩:=x;exact Om e
 | own y=>obtain⟨_,e⟩:=x;exact Om e
 | xd fs=>obtain⟨_,⟨_,_,_,e,_⟩,_⟩:=x;exact Om e
 | rng lo hi=>obtain⟨_,_,_,e⟩:=x;exact Om e
 | frz ob u=>obtain⟨e,_⟩:=x;exact Om e
 | tbl q c =>
  cases c with
  | true=>obtain⟨_,o,_,_,e,g,_⟩:=(show h.CodeRec (.ref a) q from x);cases e;exact Om g
  | false=>obtain⟨_,e,_⟩:=x;exact Om e
 | met f y=>exact Om (show h.get? a=some _ from x)
 | ext φ=>obtain⟨_,⟨_,e⟩,_⟩:=x;exact Om e
theorem Paired.mapP{α β:Type}{F G:α->β->Prop}:∀{l₁:List α} {l₂:List β},Paired F l₁ l₂->(∀a b,F a b->G a b)->Paired G l₁ l₂
 | _,_,.nil,_=>.nil
 | _,_,.cons r t,f=>.cons (f _ _ r) (Paired.mapP t f)
theorem tK.stay(x:tK P w H h a o)(k:∀b u,(b=a\/H b=some (.own a))->h.get? b=some u->h'.get? b=some u)
  (ho:∀b,H b=some (.own a)->H' b=some (.own a)) (ht:∀b xs,H b=some (.tup xs)->H' b=some (.tup xs)) (hc:∀b q c,H b=some (.tbl q c)->H' b=some (.tbl q c)):tK P w H' h' a o:=by
 induction o with
 | lst xs=>obtain⟨z,its,n,r,e⟩:=x;exact⟨z,its,n,r,k _ _ (.inl rfl) e⟩
 | tup xs=>obtain⟨z,its,r,ob,e,c⟩:=x;exact⟨z,its,r,ob,k _ _ (.inl rfl) e,c⟩
 | dK kvs=>obtain⟨z,y,vs,r,ob,es,ep,e,c⟩:=x;exact⟨z,y,vs,r,ob,es,ep,k _ _ (.inl rfl) e,c⟩
 | dT kvs =>
  obtain⟨z,y,xs,r,ob,es,ep,e,c⟩:=x
  exact⟨z,y,xs,Paired.mapP r fun p q z=>⟨z.1,ht _ _ z.2.1,z.2.2⟩,ob,es,ep,k _ _ (.inl rfl) e,c⟩
 | set S n=>obtain⟨ob,es,ep,t,e,c⟩:=x;exact⟨ob,es,ep,t,k _ _ (.inl rfl) e,c⟩
 | ins C dx fs =>
  obtain⟨d,z,ne,e,mA,⟨od,es,ep,e2,c⟩,r⟩:=x
  exact⟨ho _ d,z,ne,k _ _ (.inl rfl) e,mA,⟨od,es,ep,k _ _ (.inr d) e2,c⟩,r⟩
 | own y=>obtain⟨ob,e⟩:=x;exact⟨ob,k _ _ (.inl rfl) e⟩
 | xd fs=>obtain⟨mA,⟨od,es,ep,e,c⟩,r⟩:=x;exact⟨mA,⟨od,es,ep,k _ _ (.inl rfl) e,c⟩,r⟩
 | rng lo hi=>obtain⟨t,u,v,e⟩:=x;exact⟨t,u,v,k _ _ (.inl rfl) e⟩
 | frz ob u ih=>obtain⟨e,q⟩:=x;exact⟨k _ _ (.inl rfl) e,ih q⟩
 | tbl q c =>
  cases c with
  | true =>
   obtain⟨_,o,vs,t,e,g,r⟩:=(show h.CodeRec (.ref a) q from x)
   cases e
   exact⟨a,o,vs,t,rfl,k _ _ (.inl rfl) g,r⟩
  | false =>
   obtain⟨ts,e,t,r⟩:=x
   refine⟨ts,k _ _ (.inl rfl) e,t,fun pos cv hcv=>?_⟩
   obtain⟨c,e1,e2⟩:=r pos cv hcv
   exact⟨c,e1,hc _ _ _ e2⟩
 | met f y =>
  have e:h.get? a=some (PySem.W.methodObj (.ref f) (.ref y)):=x
  show h'.get? a=some (PySem.W.methodObj (.ref f) (.ref y))
  exact k a _ (.inl rfl) e
 | ext φ=>obtain⟨p,⟨o,e⟩,st⟩:=x;exact⟨st _ _ p fun o q=>k _ _ (.inl rfl) q,⟨o,k _ _ (.inl rfl) e⟩,st⟩
theorem wF.lt(x:wF P w H h)(e:H a=some o):a<h.objs.size:=(x a o e).lt
theorem wF.fresh(x:wF P w H h)(e:h.objs.size<=a):H a=none:=by
 cases q:H a with
 | none=>rfl
 | some u=>exact OA (Ol (x.lt q) e) (OX _)
theorem wF.kept(x:wF P w H h)(k:∀b u,h.get? b=some u->h'.get? b=some u):wF P w H h':=fun a o e =>
 (x a o e).stay (fun b u _ q=>k b u q) (fun _ q=>q) (fun _ _ q=>q) fun _ _ _ q=>q
theorem wF.laid(x:wF P w H h)(k:∀b u,h.get? b=some u->h'.get? b=some u)(hp:h.objs.size<=a)(new:tK P w (upd H a o) h' a o):wF P w (upd H a o) h':=fun b u e=>by
 have hn:=x.fresh hp
 by_cases hb:b=a
 ·subst hb;rw[av] at e;cases e;exact new
 ·rw[aq hb] at e
  exact(x b u e).stay (fun c v _ q=>k c v q) (fun c q=>by rw[aq (so q hn)];exact q) (fun c xs q=>by rw[aq (so q hn)];exact q) fun c _ _ q=>by rw[aq (so q hn)];exact q
end
def Rd(H:Hp)(a:N9)(u:HO):Prop:=H a=some u\/∃o,H a=some (.frz o u)
theorem Rd.of{H:Hp}{a:N9}{u:HO}(h:H a=some u):Rd H a u:=.inl h
theorem Rd.ok{P:Oh}{w:Ot}{H:Hp}{h:OC}{a:N9}{u:HO}(r:Rd H a u)(x:wF P w H h):tK P w H h a u:=by
 rcases r with r | ⟨o,r⟩
 ·exact x a u r
 ·obtain⟨_,q⟩:=x a _ r
  exact q
def LN:N7 HO->Prop
 | some (.lst _)=>True
 | some (.dK _)=>True
 | some (.dT _)=>True
 | some (.set _ _)=>True
 | some (.ins _ _ _)=>True
 | some (.ext _)=>True
 | some (.frz _ (.own _))=>True
 | _=>False
section
variable{P:Oh}{w:Ot}{H:Hp}{h h':OC}{x e:N9}{o':HO}
theorem wF.write(ok:wF P w H h)(mu:LN (H x))(he:e=x\/H e=some (.own x))(k:∀b u,b≠e->h.get? b=some u->h'.get? b=some u)(heo:∃u,h'.get? e=some u)
  (new:tK P w (upd H x o') h' x o'):wF P w (upd H x o') h':=fun b u q=>by
 have nown:∀c y,H c=some (.own y)->c≠x:=fun c y r z=>by subst z;rw[r] at mu;exact mu
 have ntup:∀c xs,H c=some (.tup xs)->c≠x:=fun c xs r z=>by subst z;rw[r] at mu;exact mu
 by_cases hb:b=x
 ·subst hb;rw[av] at q;cases q;exact new
 ·rw[aq hb] at q
  by_cases hbe:b=e
  ·have q':H b=some (.own x):=by
    rcases he with z | z
    ·exact OA (hbe.trans z) hb
    ·rw[hbe];exact z
   rw[q] at q';cases q'
   obtain⟨v,hv⟩:=heo
   exact⟨v,by rw[hbe];exact hv⟩
  ·refine(ok b u q).stay (fun c v hc r=>k c v ?_ r) (fun c r=>by rw[aq (nown c b r)];exact r) (fun c xs r=>by rw[aq (ntup c xs r)];exact r) fun c q d r=>by rw[aq fun z=>by subst z;rw[r] at mu;exact mu];exact r
   rcases hc with rfl | hc
   ·exact hbe
   ·rintro rfl
    rcases he with z | z
    ·exact nown c b hc z
    ·rw[hc] at z;cases z;exact hb rfl
end
structure Un (fs ex:List N9) (H H':Hp) (h h':OC):Prop where
 keep:∀b o,h.get? b=some o->H b=none->b∉fs->b∉ex->h'.get? b=some o
 slot:∀b o,h.get? b=some o->H b=none->b∈fs->b∉ex->∃sl,h'.get? b=some {o with slots:=sl}
 free:∀b o,h.get? b=some o->H b=none->b∉ex->H' b=none
 there:∀b o,h.get? b=some o->b∉ex->∃o',h'.get? b=some o'
 tups:∀b xs,H b=some (.tup xs)->H' b=some (.tup xs)
 frzs:∀b o u,(∀y,u≠.own y)->H b=some (.frz o u)->H' b=some (.frz o u)
 tbls:∀b q c,H b=some (.tbl q c)->H' b=some (.tbl q c)
section
variable{fs fs' ex ex':List N9}{H H1 H2:Hp}{h h1 h2 h':OC}{a x e:N9}{o:HO}
theorem Un.any(u:Un fs ex H H1 h h1){b:N9}{ob:Obj}(q:h.get? b=some ob)(n:H b=none)(hx:b∉ex):∃sl,h1.get? b=some {ob with slots:=sl}:=by
 by_cases hb:b∈fs
 ·exact u.slot b ob q n hb hx
 ·exact⟨ob.slots,u.keep b ob q n hb hx⟩
theorem Un.trans(a:Un fs ex H H1 h h1)(b:Un fs ex H1 H2 h1 h2):Un fs ex H H2 h h2 where
 keep:=fun c ob q n hc hx=>b.keep c ob (a.keep c ob q n hc hx) (a.free c ob q n hx) hc hx
 slot:=fun c ob q n hc hx=>by
  obtain⟨sl,e1⟩:=a.slot c ob q n hc hx
  obtain⟨sl',e2⟩:=b.slot c _ e1 (a.free c ob q n hx) hc hx
  exact⟨sl',e2⟩
 free:=fun c ob q n hx=>by
  obtain⟨o',e1⟩:=a.there c ob q hx
  exact b.free c o' e1 (a.free c ob q n hx) hx
 there:=fun c ob q hx=>by
  obtain⟨o',e1⟩:=a.there c ob q hx
  exact b.there c o' e1 hx
 tups:=fun c xs q=>b.tups c xs (a.tups c xs q)
 frzs:=fun c ob xs ny q=>b.frzs c ob xs ny (a.frzs c ob xs ny q)
 tbls:=fun c ps d q=>b.tbls c ps d (a.tbls c ps d q)
theorem Un.kept(k:∀b u,h.get? b=some u->h'.get? b=some u):Un fs ex H H h h':=
 ⟨fun b ob q _ _ _=>k b ob q,fun b ob q _ _ _=>⟨ob.slots,k b ob q⟩,fun _ _ _ n _=>n,fun b ob q _=>⟨ob,k b ob q⟩,fun _ _ q=>q,fun _ _ _ _ q=>q,fun _ _ _ q=>q⟩
theorem Un.refl:Un fs ex H H h h:=Un.kept fun _ _ q=>q
theorem Un.laid(k:∀b u,h.get? b=some u->h'.get? b=some u)(hp:h.objs.size<=a)(hn:H a=none):Un fs ex H (upd H a o) h h' where
 keep:=fun b u q _ _ _=>k b u q
 slot:=fun b u q _ _ _=>⟨u.slots,k b u q⟩
 free:=fun b u q n _=>by rw[aq (OL (Ol (Om q) hp))];exact n
 there:=fun b u q _=>⟨u,k b u q⟩
 tups:=fun b xs q=>by rw[aq (so q hn)];exact q
 frzs:=fun b u xs _ q=>by rw[aq (so q hn)];exact q
 tbls:=fun b ps _ q=>by rw[aq (so q hn)];exact q
theorem Un.write(mu:LN (H x))(he:e=x\/H e=some (.own x))(k:∀b u,b≠e->h.get? b=some u->h'.get? b=some u)(heo:∃u,h'.get? e=some u):Un fs ex H (upd H x o) h h':=by
 have hx:∀b,H b=none->b≠x:=fun b n z=>by subst z;rw[n] at mu;exact mu
 have hb:∀b,H b=none->b≠e:=fun b n z=>by
  subst z
  rcases he with r | r
  ·exact hx b n r
  ·rw[n] at r;cases r
 have hm:∀b u,H b=some u->¬ LN (some u)->b≠x:=fun b u q nm z=>by subst z;rw[q] at mu;exact nm mu
 refine⟨fun b u q n _ _=>k b u (hb b n) q,fun b u q n _ _=>⟨u.slots,k b u (hb b n) q⟩,fun b u q n _=>by rw[aq (hx b n)];exact n,fun b u q _=>?_,
  fun b xs q=>by rw[aq (hm b _ q fun z=>z)];exact q,fun b u xs ny q=>by rw[aq (hm b _ q (by intro z;cases xs<;>first | exact z | exact ny _ rfl))];exact q,fun b ps _ q=>by rw[aq (hm b _ q fun z=>z)];exact q⟩
 by_cases hbe:b=e
 ·subst hbe;exact heo
 ·exact⟨u,k b u hbe q⟩
theorem Un.mono(u:Un fs ex H H1 h h1)(hs:∀b∈fs,b∈fs')(hx:∀b∈ex,b∈ex'):Un fs' ex' H H1 h h1:=
 ⟨fun b ob q n hb he=>u.keep b ob q n (fun z=>hb (hs b z)) fun z=>he (hx b z),fun _ _ q n _ he=>u.any q n fun z=>he (hx _ z),fun b ob q n he=>u.free b ob q n fun z=>he (hx b z),fun b ob q he=>u.there b ob q fun z=>he (hx b z),u.tups,u.frzs,u.tbls⟩
end
def LG(h:OC)(H:Hp):List N9:=(List.range h.objs.size).filter fun a=>(H a).isSome
def w8(h:OC)(H:Hp):OC:=PySem.W.hideAll h (LG h H)
theorem Ag(h:OC)(H:Hp):(w8 h H).objs.size=h.objs.size:=PySem.W.hideAll_size _ _
theorem Bu{h:OC}{H:Hp}{b:N9}{o:Obj}(e:h.get? b=some o)(n:H b=none):(w8 h H).get? b=some o:=
 PySem.W.hideAll_get _ e fun hm=>by
  have q:(H b).isSome=true:=(List.mem_filter.mp hm).2
  rw[n] at q;simp at q
theorem DD{h:OC}{H:Hp}{b:N9}{o:Obj}(e:(w8 h H).get? b=some o):h.get? b=some o/\H b=none:=by
 have e':h.get? b=some o:=PySem.W.of_hideAll (LG h H) e
 refine⟨e',?_⟩
 cases q:H b with
 | none=>rfl
 | some x =>
  have hm:b∈LG h H:=List.mem_filter.mpr ⟨List.mem_range.mpr (Om e'),by simp[q]⟩
  have z:(w8 h H).get? b=none:=PySem.W.hideAll_none (LG h H) hm
  rw[z] at e;cases e
noncomputable def GB(g h:OC)(L:N9):List (N9×Obj):=(List.range h.objs.size).filterMap fun a=>if a=L\/(g.get? a).isSome=true then none else (h.get? a).map fun o=>(a,o)
def rest(g h:OC)(L d:N9):List (N9×Obj):=(GB g h L).filter fun p=>decide (p.1≠d)
end L2
namespace L2
open PySem PySem.Spec PyProof.Rows
structure Mod (K:N_) (mg:Str->N7 N8) (base:OC):Prop where
 kin:K.In base
 glob:base.Ns mainGlobals mg
 blt:∃mb,base.Ns builtinsNs mb/\∀x:Str,x ≠ "__name__" -> mb x=bootBuiltins x
 nolimit:base.NoLimit
structure Cx where
 prog:Oh
 w:Ot
 K:N_
 mg:Str->N7 N8
 base:OC
 A:OJ
 N:List Str
 s₀:Oa
 H₀:Hp
 env:Env
 outer:List Env
 stack:List Env
 ex:List N9
 fn:Str->Bool
 calm:Bool
 pn:List (N9×Obj)
 xe:N8->Oa->Prop
noncomputable def vf(l:List Env):List N9:=l.filterMap (·.frame)
abbrev Cx.fs(X:Cx):List N9:=vf X.outer
def BS(sc:Scope)(x:Str):Prop:=sc.names.lookup x=some .local\/sc.names.lookup x=some .cell\/sc.names.lookup x=some .free
def Loc(sc:Scope)(x:Str):Prop:=sc.names.lookup x=some .local\/sc.names.lookup x=some .cell
def Look(env:Env)(h:OC)(m:Str->N7 N8)(x:Str)(u:N8):Prop:=
 (env.kindOf x=some .local/\m x=some u)\/((env.kindOf x=some .cell\/env.kindOf x=some .free)/\∃c,env.cells.lookup x=some c/\h.IsCell c (some u))
structure Cx.Ok (X:Cx):Prop where
 mod:Mod X.K X.mg X.base
 kind:X.env.scope.kind=.function
 glob:X.env.globals=mainGlobals
 blt:X.env.builtins=builtinsNs
 above:X.s₀.heap.objs.size<=X.env.locals
 inj:∀x y c,X.env.cells.lookup x=some c->X.env.cells.lookup y=some c->x=y
 has:∀x,(X.env.kindOf x=some .cell\/X.env.kindOf x=some .free)->∃c,X.env.cells.lookup x=some c
 cab:∀x c,X.fn x=true->X.env.cells.lookup x=some c->X.s₀.heap.objs.size<=c
 hd:X.calm=true->X.A.handled=none
 frames:X.A.frames=some X.stack
 stk:X.stack=X.outer\/(X.stack=X.env::X.outer/\X.env.frame=some X.env.locals)
 exf:∀b∈X.ex,b≠X.env.locals/\∀x c,X.env.cells.lookup x=some c->c≠b
 bs:∀b o,X.base.get? b=some o->X.s₀.heap.get? b=some o/\X.H₀ b=none
 bsz:X.base.objs.size<=X.s₀.heap.objs.size
 noex:∀b o,X.base.get? b=some o->b∉X.ex
 exfs:∀b∈X.ex,b∉X.fs
 funs:X.s₀.heap.FunFrames X.base X.outer
 frf:∀b∈X.fs,X.H₀ b=none
structure Inv (X:Cx) (pins:List (N9×Obj)) (σ:List (N7 V)) (H:Hp) (s:Oa):Prop where
 ok:X.Ok
 os:s.os=X.s₀.os
 bare:AllBare s.gens
 base:Un X.fs X.ex X.H₀ H X.s₀.heap s.heap
 loc:∃m,s.heap.Ns X.env.locals m/\∀(i:Nat) (x:Str) (v:V),X.N[i]?=some x->σ[i]?=some (some v)->BS X.env.scope x->∃u,RelV v u/\Look X.env s.heap m x u
 cell:∀x c,X.env.cells.lookup x=some c->∃v,s.heap.IsCell c v
 free:H X.env.locals=none
 freeC:∀x c,X.env.cells.lookup x=some c->H c=none
 pin:∀p∈X.pn++pins,s.heap.get? p.1=some p.2/\H p.1=none/\p.1≠X.env.locals/\p.1∉X.fs/\∀v,p.2.data≠.cell v
 hok:wF X.prog X.w H s.heap
 len:σ.length=X.N.length
section
variable{X:Cx}{pins:List (N9×Obj)}{σ:List (N7 V)}{H H':Hp}{s:Oa}{h':OC}
theorem Cx.Ok.nofr(ok:X.Ok){b:N9}{o:Obj}(e:X.base.get? b=some o):b∉X.fs:=fun hb=>by
 have:=(ok.funs.mem hb).1
 rw[e] at this;cases this
theorem Inv.bs(I:Inv X pins σ H s):∀b o,X.base.get? b=some o->s.heap.get? b=some o/\H b=none:=fun b o e =>
 ⟨I.base.keep b o (I.ok.bs b o e).1 (I.ok.bs b o e).2 (I.ok.nofr e) (I.ok.noex b o e),I.base.free b o (I.ok.bs b o e).1 (I.ok.bs b o e).2 (I.ok.noex b o e)⟩
theorem Inv.bk(I:Inv X pins σ H s):∀b o,X.base.get? b=some o->s.heap.get? b=some o:=fun b o e=>(I.bs b o e).1
theorem Inv.mod(I:Inv X pins σ H s):Mod X.K X.mg X.base:=I.ok.mod
theorem Inv.kIn(I:Inv X pins σ H s):X.K.In s.heap:=I.ok.mod.kin.keeps I.bk
theorem Inv.nolimit(I:Inv X pins σ H s):s.heap.NoLimit:=I.ok.mod.nolimit.keeps I.bk
theorem Inv.fr(I:Inv X pins σ H s):∃m,Fr X.base X.env.locals s.heap m:=
 let ⟨m,hn,_⟩:=I.loc
 ⟨m,hn,I.bk,OH I.ok.bsz I.ok.above⟩
theorem Inv.lt(I:Inv X pins σ H s):X.env.locals<s.heap.objs.size:=let ⟨_,hn,_⟩:=I.loc;hn.lt
theorem Inv.sz(I:Inv X pins σ H s):X.s₀.heap.objs.size<=s.heap.objs.size:=OH I.ok.above (Nat.le_of_lt I.lt)
theorem Inv.nofs(I:Inv X pins σ H s){a:N9}(h:s.heap.objs.size<=a):a∉X.fs:=fun hb=>by
 obtain⟨_,o,ho,_⟩:=I.ok.funs.mem hb
 exact OA (Ol (Om ho) (OH I.sz h)) (OX _)
theorem Inv.cne(I:Inv X pins σ H s):∀x c,X.env.cells.lookup x=some c->c≠X.env.locals:=fun x c e z=>by
 obtain⟨v,o,ho,hd⟩:=I.cell x c e
 obtain⟨m,⟨o',es,ep,ho',hd',_⟩,_⟩:=I.loc
 rw[z,ho'] at ho;cases ho;rw[hd'] at hd;cases hd
theorem Inv.funs(I:Inv X pins σ H s):s.heap.FunFrames X.base X.outer:=by
 have all:∀(l:List Env),(∀b∈vf l,b∈X.fs)->X.s₀.heap.FunFrames X.base l->s.heap.FunFrames X.base l:=by
  intro l
  induction l with
  | nil=>intro _ _;trivial
  | cons env r ih =>
   intro hs hl
   obtain⟨hk,⟨L,o,hf,hn,ho,hd⟩,hr⟩:=hl
   have hL:L∈X.fs:=hs L (by unfold vf;rw[List.filterMap_cons,hf];exact ON)
   obtain⟨sl,e⟩:=I.base.slot L o ho (I.ok.frf L hL) hL fun z=>I.ok.exfs L z hL
   exact⟨hk,⟨L,_,hf,hn,e,hd⟩,ih (fun b hb=>hs b (by unfold vf;rw[List.filterMap_cons,hf];exact Oy _ hb)) hr⟩
 exact all X.outer (fun _ hb=>hb) I.ok.funs
theorem Inv.stack(I:Inv X pins σ H s):s.heap.FunFrames X.base X.stack:=by
 rcases I.ok.stk with e | ⟨e,hf⟩
 ·rw[e];exact I.funs
 ·rw[e]
  obtain⟨m,hn,_⟩:=I.loc
  refine .cons (by rw[I.ok.kind];decide) hf hn ?_ I.funs
  exact Heap.get?_none_of_le (OH I.ok.bsz I.ok.above)
theorem Inv.stkSub(I:Inv X pins σ H s):∀b∈vf X.stack,b∈X.env.locals::X.fs:=fun b hb=>by
 rcases I.ok.stk with e | ⟨e,hf⟩
 ·rw[e] at hb;exact Oy _ hb
 ·rw[e] at hb
  unfold vf at hb
  rw[List.filterMap_cons,hf] at hb
  exact hb
theorem Inv.stkFree(I:Inv X pins σ H s):∀b∈vf X.stack,H b=none:=fun b hb=>by
 rcases Oj.mp (I.stkSub b hb) with e | hb
 ·rw[e];exact I.free
 ·obtain⟨_,o,ho,_⟩:=I.ok.funs.mem hb
  exact I.base.free b o ho (I.ok.frf b hb) fun z=>I.ok.exfs b z hb
theorem Inv.step{g':Array GenState}{t':Nat}{d':Drawn}{ch:List N9}(I:Inv X pins σ H s)
  (hch:∀b∈ch,(b∈X.ex\/X.s₀.heap.objs.size<=b)/\b≠X.env.locals/\(∀x c,X.env.cells.lookup x=some c->c≠b)/\∀p∈X.pn++pins,p.1≠b)
  (keep:∀b o,b≠X.env.locals->b∉X.fs->b∉ch->s.heap.get? b=some o->H b=none->h'.get? b=some o)
  (slot:∀b o,b≠X.env.locals->b∈X.fs->b∉ch->s.heap.get? b=some o->H b=none->∃sl,h'.get? b=some {o with slots:=sl}) (free:∀b o,b∉ch->s.heap.get? b=some o->H b=none->H' b=none)
  (there:∀b o,b∉ch->s.heap.get? b=some o->∃o',h'.get? b=some o')
  (tups:∀b xs,H b=some (.tup xs)->H' b=some (.tup xs)) (frzs:∀b o u,(∀y,u≠.own y)->H b=some (.frz o u)->H' b=some (.frz o u)) (tbls:∀b q c,H b=some (.tbl q c)->H' b=some (.tbl q c))
  (ns:∀m,s.heap.Ns X.env.locals m->h'.Ns X.env.locals m) (hok:wF X.prog X.w H' h') (hg:AllBare g') :
  Inv X pins σ H' {s with heap:=h',gens:=g',drawn:=d',toks:=t' }:=by
 have neL:∀b o,X.s₀.heap.get? b=some o->b≠X.env.locals:=fun b o e=>OL (Ol (Om e) I.ok.above)
 have neC:∀b o,X.s₀.heap.get? b=some o->b∉X.ex->b∉ch:=fun b o e hx hb=>by
  rcases(hch b hb).1 with z | z
  ·exact hx z
  ·exact OA (Ol (Om e) z) (OX _)
 have cellK:∀x c,X.env.cells.lookup x=some c->∀v,s.heap.IsCell c v->h'.IsCell c v:=fun x c e v ⟨o,ho,hd⟩=>by
  have nch:c∉ch:=fun z=>(hch c z).2.2.1 x c e rfl
  by_cases hc:c∈X.fs
  ·obtain⟨sl,q⟩:=slot c o (I.cne x c e) hc nch ho (I.freeC x c e)
   exact⟨_,q,hd⟩
  ·exact⟨o,keep c o (I.cne x c e) hc nch ho (I.freeC x c e),hd⟩
 refine⟨I.ok,I.os,hg,⟨fun b o e n hb hx=>?_,fun b o e n hb hx=>?_,fun b o e n hx=>?_,fun b o e hx=>?_,fun b xs e=>tups b xs (I.base.tups b xs e),fun b o xs ny e=>frzs b o xs ny (I.base.frzs b o xs ny e),fun b ps d e=>?_⟩,?_,fun x c e=>?_,?_,fun x c e=>?_,fun p hp=>?_,hok,I.len⟩
 ·exact keep b o (neL b o e) hb (neC b o e hx) (I.base.keep b o e n hb hx) (I.base.free b o e n hx)
 ·obtain⟨sl,e1⟩:=I.base.slot b o e n hb hx
  obtain⟨sl',e2⟩:=slot b _ (neL b o e) hb (neC b o e hx) e1 (I.base.free b o e n hx)
  exact⟨sl',e2⟩
 ·obtain⟨o',e1⟩:=I.base.there b o e hx
  exact free b o' (neC b o e hx) e1 (I.base.free b o e n hx)
 ·obtain⟨o',e1⟩:=I.base.there b o e hx
  exact there b o' (neC b o e hx) e1
 ·exact tbls b ps d (I.base.tbls b ps d e)
 ·obtain⟨m,hn,hl⟩:=I.loc
  refine⟨m,ns m hn,fun i x v e1 e2 e3=>?_⟩
  obtain⟨u,r,l⟩:=hl i x v e1 e2 e3
  refine⟨u,r,?_⟩
  rcases l with l | ⟨k,c,e,z⟩
  ·exact .inl l
  ·exact .inr ⟨k,c,e,cellK x c e _ z⟩
 ·obtain⟨v,z⟩:=I.cell x c e
  exact⟨v,cellK x c e v z⟩
 ·obtain⟨m,⟨o,_,_,ho,_⟩,_⟩:=I.loc
  exact free _ o (fun z=>(hch _ z).2.1 rfl) ho I.free
 ·obtain⟨v,o,ho,hd⟩:=I.cell x c e
  exact free c o (fun z=>(hch c z).2.2.1 x c e rfl) ho (I.freeC x c e)
 ·obtain⟨e,n,ne,nf,d⟩:=I.pin p hp
  have nch:p.1∉ch:=fun z=>(hch p.1 z).2.2.2 p hp rfl
  exact⟨keep p.1 p.2 ne nf nch e n,free p.1 p.2 nch e n,ne,nf,d⟩
theorem Inv.un{t':Nat}(I:Inv X pins σ H s)(u:Un X.fs [] H H' s.heap h')(hok:wF X.prog X.w H' h'):Inv X pins σ H' {s with heap:=h',toks:=t' }:=by
 obtain⟨m,⟨o,es,ep,ho,r⟩,_⟩:=id I.loc
 obtain⟨sl,hL⟩:=u.any ho I.free (by simp)
 exact I.step (g':=s.gens) (d':=s.drawn) (ch:=[]) (fun _ z=>nomatch z) (fun b o _ hb _ e n=>u.keep b o e n hb (by simp)) (fun b o _ hb _ e n=>u.slot b o e n hb (by simp)) (fun b o _ e n=>u.free b o e n (by simp)) (fun b o _ e=>u.there b o e (by simp)) u.tups u.frzs u.tbls (fun m' hm=>by
  obtain⟨o',es',ep',ho',r'⟩:=hm
  rw[ho] at ho';cases ho'
  exact⟨_,es',ep',hL,r'⟩) hok I.bare
theorem Inv.call{g':Array GenState}{t':Nat}{d':Drawn}{ch:List N9}(I:Inv X pins σ H s)(u:Un (vf X.stack) ch H H' s.heap h')(hok:wF X.prog X.w H' h')(hg:AllBare g')
  (hch:∀b∈ch,(b∈X.ex\/X.s₀.heap.objs.size<=b)/\b≠X.env.locals/\(∀x c,X.env.cells.lookup x=some c->c≠b)/\∀p∈X.pn++pins,p.1≠b) :
  Inv X pins σ H' {s with heap:=h',gens:=g',drawn:=d',toks:=t' }:=by
 obtain⟨m,⟨o,es,ep,ho,r⟩,_⟩:=id I.loc
 obtain⟨sl,hL⟩:=u.any ho I.free fun z=>(hch _ z).2.1 rfl
 exact I.step (ch:=ch) hch (fun b o hL hb hc e n=>u.keep b o e n (fun z=>(Oj.mp (I.stkSub b z)).elim hL hb) hc) (fun b o _ _ hc e n=>u.any e n hc) (fun b o hc e n=>u.free b o e n hc) (fun b o hc e=>u.there b o e hc) u.tups u.frzs u.tbls (fun m' hm=>by
  obtain⟨o',es',ep',ho',r'⟩:=hm
  rw[ho] at ho';cases ho'
  exact⟨_,es',ep',hL,r'⟩) hok hg
theorem Inv.turned{t':Nat}{it:N9}(I:Inv X pins σ H s)(k:∀b o,b≠it->s.heap.get? b=some o->h'.get? b=some o)(hn:H it=none)(hL:it≠X.env.locals)
  (h1:it∈X.ex\/X.s₀.heap.objs.size<=it) (h2:∀x c,X.env.cells.lookup x=some c->c≠it) (h3:∀p∈X.pn++pins,p.1≠it):Inv X pins σ H {s with heap:=h',toks:=t' }:=by
 have nit:∀b u,H b=some u->b≠it:=fun b u e z=>by rw[z,hn] at e;cases e
 refine I.step (g':=s.gens) (d':=s.drawn) (ch:=[it]) (fun b hb=>?_) (fun b o _ _ hc e _=>k b o (fun z=>hc (by simp[z])) e) (fun b o _ _ hc e _=>⟨o.slots,k b o (fun z=>hc (by simp[z])) e⟩) (fun _ _ _ _ n=>n)
  (fun b o hc e=>⟨o,k b o (fun z=>hc (by simp[z])) e⟩) (fun _ _ e=>e) (fun _ _ _ _ e=>e) (fun _ _ _ e=>e) (fun m hm=>?_) (fun b u e=>?_) I.bare
 ·have e:b=it:=by simpa using hb
  subst e
  exact⟨h1,hL,h2,h3⟩
 ·obtain⟨o,es,ep,ho,r⟩:=hm
  exact⟨o,es,ep,k _ o (Ne.symm hL) ho,r⟩
 ·refine(I.hok b u e).stay (fun c v hc q=>k c v ?_ q) (fun _ q=>q) (fun _ _ q=>q) fun _ _ _ q=>q
  rcases hc with z | z
  ·rw[z];exact nit b u e
  ·exact nit c _ z
theorem Inv.tok(I:Inv X pins σ H s)(t:Nat):Inv X pins σ H {s with toks:=t}:=I.un (h':=s.heap) (t':=t) Un.refl I.hok
theorem Inv.kept{t':Nat}(I:Inv X pins σ H s)(k:∀b u,s.heap.get? b=some u->h'.get? b=some u):Inv X pins σ H {s with heap:=h',toks:=t' }:=I.un (Un.kept k) (I.hok.kept k)
theorem Inv.laid{a:N9}{o:HO}{t':Nat}(I:Inv X pins σ H s)(k:∀b u,s.heap.get? b=some u->h'.get? b=some u)(hp:s.heap.objs.size<=a)(new:tK X.prog X.w (upd H a o) h' a o) :
  Inv X pins σ (upd H a o) {s with heap:=h',toks:=t' }:=I.un (Un.laid k hp (I.hok.fresh hp)) (I.hok.laid k hp new)
theorem Inv.write{x e:N9}{o:HO}{t':Nat}(I:Inv X pins σ H s)(mu:LN (H x))(he:e=x\/H e=some (.own x))(k:∀b u,b≠e->s.heap.get? b=some u->h'.get? b=some u)(heo:∃u,h'.get? e=some u)
  (new:tK X.prog X.w (upd H x o) h' x o):Inv X pins σ (upd H x o) {s with heap:=h',toks:=t' }:=I.un (Un.write mu he k heo) (I.hok.write mu he k heo new)
theorem Inv.pins_of{pins':List (N9×Obj)}(I:Inv X pins σ H s)(h:∀p∈pins',s.heap.get? p.1=some p.2/\H p.1=none/\p.1≠X.env.locals/\p.1∉X.fs/\∀v,p.2.data≠.cell v):Inv X pins' σ H s:=
 ⟨I.ok,I.os,I.bare,I.base,I.loc,I.cell,I.free,I.freeC,fun p hp=>(Pi.mp hp).elim (fun z=>I.pin p (O3 _ z)) (h p),I.hok,I.len⟩
theorem BV{N:List Str}(hN:N.Nodup){i j:Nat}{x:Str}(a:N[i]?=some x)(b:N[j]?=some x):i=j:=by
 obtain⟨h1,e1⟩:=OI.mp a
 obtain⟨h2,e2⟩:=OI.mp b
 exact(List.getElem_inj hN).mp (e1.trans e2.symm)
theorem D6{M:Model}{A:OJ}{E:N8->Oa->Prop}{i:Nat}{x:Str}{v:V}{u:N8}{Q:Unit->Oa->Prop}(I:Inv X pins σ H s)(hN:X.N.Nodup)(hi:X.N[i]?=some x)(hx:Loc X.env.scope x)(r:RelV v u)
  (h:∀s',Inv X pins (σ.set i (some v)) H s'->(∃a,Heap.SameBut a s.heap s'.heap/\(a=X.env.locals\/X.env.cells.lookup x=some a))->Q () s') (hf:X.fn x=true\/X.env.scope.names.lookup x=some .local:=by first | exact .inl rfl | exact .inr rfl | assumption):wpAny M A (storeName X.env x u) Q E s:=by
 obtain⟨m,hn,hl⟩:=id I.loc
 have hcls:(X.env.scope.kind==.class||(X.env.scope.kind==.module&&X.env.locals != X.env.globals))=false:=by rw[I.ok.kind];rfl
 have hiσ:i<σ.length:=by rw[I.len];exact(OI.mp hi).1
 have cne:=I.cne
 have tracked:∀{a:N9} {h':OC},(∃o,s.heap.get? a=some o/\H a=none)->Heap.SameBut a s.heap h'->wF X.prog X.w H h':=fun {a h'} ha hs b ob e=>by
  obtain⟨_,_,hfree⟩:=ha
  refine(I.hok b ob e).stay (fun c w' hc q=>(hs.2 c ?_).trans q) (fun _ q=>q) (fun _ _ q=>q) fun _ _ _ q=>q
  rintro rfl
  rcases hc with rfl | hc
  ·rw[hfree] at e;cases e
  ·rw[hfree] at hc;cases hc
 rcases hx with hk | hk
 ·refine wpAny_storeName_local hk hn (fun h' hn' hs=>?_) hcls
  obtain⟨oL,_,_,hoL,_⟩:=id hn
  refine h _ ⟨I.ok,I.os,I.bare,⟨fun b o e n hb hx=>?_,fun b o e n hb hx=>?_,I.base.free,fun b o e hx=>?_,I.base.tups,I.base.frzs,I.base.tbls⟩,⟨_,hn',fun j y v' e1 e2 e3=>?_⟩,fun y c e=>?_,I.free,I.freeC,fun p hp=>?_,tracked ⟨oL,hoL,I.free⟩ hs,by simpa using I.len⟩ ⟨_,hs,.inl rfl⟩
  ·exact(hs.2 b (OL (Ol (Om e) I.ok.above))).trans (I.base.keep b o e n hb hx)
  ·obtain⟨sl,e1⟩:=I.base.slot b o e n hb hx
   exact⟨sl,(hs.2 b (OL (Ol (Om e) I.ok.above))).trans e1⟩
  ·obtain⟨o',e1⟩:=I.base.there b o e hx
   exact⟨o',(hs.2 b (OL (Ol (Om e) I.ok.above))).trans e1⟩
  ·by_cases hj:j=i
   ·subst hj
    rw[hi] at e1;cases e1
    rw[O5 hiσ] at e2
    cases e2
    exact⟨u,r,.inl ⟨hk,by simp⟩⟩
   ·rw[O8 (Ne.symm hj)] at e2
    obtain⟨u',r',q⟩:=hl j y v' e1 e2 e3
    refine⟨u',r',?_⟩
    rcases q with ⟨k,e⟩ | ⟨k,c,e,z⟩
    ·refine .inl ⟨k,?_⟩
     have:y≠x:=fun e=>hj (BV hN e1 (e ▸ hi))
     simp[this,e]
    ·exact .inr ⟨k,c,e,z.sameBut hs (cne y c e)⟩
  ·obtain⟨w',z⟩:=I.cell y c e
   exact⟨w',z.sameBut hs (cne y c e)⟩
  ·obtain⟨e,n,ne,nf,d⟩:=I.pin p hp
   exact⟨(hs.2 p.1 ne).trans e,n,ne,nf,d⟩
 ·have hfn:X.fn x=true:=by
   rcases hf with z | z
   ·exact z
   ·rw[z] at hk;cases hk
  obtain⟨c,hc⟩:=I.ok.has x (.inl hk)
  obtain⟨w',z⟩:=I.cell x c hc
  refine wpAny_storeName_cell I.ok.kind hk hc z (fun h' hc' hs=>?_)
  obtain⟨oc,hoc,hocd⟩:=id z
  refine h {s with heap:=h' } ⟨I.ok,I.os,I.bare,⟨fun b o e n hb hx=>?_,fun b o e n hb hx=>?_,I.base.free,fun b o e hx=>?_,I.base.tups,I.base.frzs,I.base.tbls⟩,⟨m,hn.sameBut hs (Ne.symm (cne x c hc)),fun j y v' e1 e2 e3=>?_⟩,fun y c' e=>?_,I.free,I.freeC,fun p hp=>?_,tracked ⟨oc,hoc,I.freeC x c hc⟩ hs,by simpa using I.len⟩ ⟨c,hs,.inr hc⟩
  ·exact(hs.2 b (OL (Ol (Om e) (I.ok.cab x c hfn hc)))).trans (I.base.keep b o e n hb hx)
  ·obtain⟨sl,e1⟩:=I.base.slot b o e n hb hx
   exact⟨sl,(hs.2 b (OL (Ol (Om e) (I.ok.cab x c hfn hc)))).trans e1⟩
  ·obtain⟨o',e1⟩:=I.base.there b o e hx
   exact⟨o',(hs.2 b (OL (Ol (Om e) (I.ok.cab x c hfn hc)))).trans e1⟩
  ·by_cases hj:j=i
   ·subst hj
    rw[hi] at e1;cases e1
    rw[O5 hiσ] at e2
    cases e2
    exact⟨u,r,.inr ⟨.inl hk,c,hc,hc'⟩⟩
   ·rw[O8 (Ne.symm hj)] at e2
    obtain⟨u',r',q⟩:=hl j y v' e1 e2 e3
    refine⟨u',r',?_⟩
    rcases q with q | ⟨k,c',e,z'⟩
    ·exact .inl q
    ·refine .inr ⟨k,c',e,z'.sameBut hs ?_⟩
     rintro rfl
     exact hj (BV hN e1 (I.ok.inj _ _ _ e hc ▸ hi))
  ·by_cases hcc:c'=c
   ·subst hcc;exact⟨_,hc'⟩
   ·obtain⟨w2,z2⟩:=I.cell y c' e
    exact⟨w2,z2.sameBut hs hcc⟩
  ·obtain⟨e,n,ne,nf,d⟩:=I.pin p hp
   refine⟨(hs.2 p.1 ?_).trans e,n,ne,nf,d⟩
   intro q
   rw[q,hoc] at e
   have q':oc=p.2:=Ow e
   exact d w' (by rw[<- q'];exact hocd)
theorem zf{M:Model}{A:OJ}{E:N8->Oa->Prop}{i:Nat}{x:Str}{v:V}{u:N8}{Q:Unit->Oa->Prop}(I:Inv X pins σ H s)(hN:X.N.Nodup)(hi:X.N[i]?=some x)(hx:Loc X.env.scope x)(r:RelV v u)
  (h:∀s',Inv X pins (σ.set i (some v)) H s'->Q () s') (hf:X.fn x=true\/X.env.scope.names.lookup x=some .local:=by first | exact .inl rfl | exact .inr rfl | assumption):wpAny M A (storeName X.env x u) Q E s:=
 D6 I hN hi hx r (fun s' I' _=>h s' I') hf
theorem Inv.call'{s':Oa}{ch:List N9}(I:Inv X pins σ H s)(ho:s'.os=s.os)(u:Un (vf X.stack) ch H H' s.heap s'.heap)(hok:wF X.prog X.w H' s'.heap)(hg:AllBare s'.gens)
  (hch:∀b∈ch,(b∈X.ex\/X.s₀.heap.objs.size<=b)/\b≠X.env.locals/\(∀x c,X.env.cells.lookup x=some c->c≠b)/\∀p∈X.pn++pins,p.1≠b):Inv X pins σ H' s':=by
 obtain⟨h',g',d',t',o'⟩:=s'
 have e:o'=s.os:=ho
 subst e
 exact I.call (g':=g') (t':=t') (d':=d') u hok hg hch
end
abbrev XK:=N8->N7 N9->Hp->Prop
abbrev St:=List (N7 V)
abbrev VK:=V->Hp->Prop
abbrev TE:=St->Hp->VK->Prop
abbrev TT:=St->Hp->(Bool->Hp->Prop)->Prop
abbrev TA:=St->Hp->(List V->Hp->Prop)->Prop
structure Ends where
 nx:St->Hp->Prop
 rt:VK
 bk:St->Hp->Prop:=fun _ _=>False
 ct:St->Hp->Prop:=fun _ _=>False
abbrev TS:=Ends->St->Hp->Prop
def EP(X:Cx)(pins:List (N9×Obj))(σ:St)(Q:VK)(u:N8)(s':Oa):Prop:=∃v H',Inv X pins σ H' s'/\RelV v u/\Q v H'
def TP(X:Cx)(pins:List (N9×Obj))(σ:St)(Q:Bool->Hp->Prop)(b:Bool)(s':Oa):Prop:=∃H',Inv X pins σ H' s'/\Q b H'
def AP(X:Cx)(pins:List (N9×Obj))(σ:St)(Q:List V->Hp->Prop)(us:List N8)(s':Oa):Prop:=∃vs H',Inv X pins σ H' s'/\l4 vs us/\Q vs H'
def SP(X:Cx)(pins:List (N9×Obj))(D:Ends)(f:Flow)(s':Oa):Prop:=
 match f with
 | .next=>∃ σ' H',Inv X pins σ' H' s'/\D.nx σ' H'
 | .brk=>∃ σ' H',Inv X pins σ' H' s'/\D.bk σ' H'
 | .cont=>∃ σ' H',Inv X pins σ' H' s'/\D.ct σ' H'
 | .ret u=>∃v σ' H',Inv X pins σ' H' s'/\RelV v u/\D.rt v H'
def PE(X:Cx)(e:OG)(t:TE):Prop:=
 ∀(pins:List (N9×Obj)) (s:Oa) (σ:St) (H:Hp) (Q:VK),Inv X pins σ H s->t σ H Q->wpAny (model X.prog X.w) X.A (eval e X.env) (EP X pins σ Q) X.xe s
def PT(X:Cx)(e:OG)(t:TT):Prop:=
 ∀(pins:List (N9×Obj)) (s:Oa) (σ:St) (H:Hp) (Q:Bool->Hp->Prop),Inv X pins σ H s->t σ H Q->wpAny (model X.prog X.w) X.A (isTrue e X.env (eval e X.env)) (TP X pins σ Q) X.xe s
def PW(X:Cx)(e:OG)(t:TT):Prop:=
 ∀(whole:Sem N8) (pins:List (N9×Obj)) (s:Oa) (σ:St) (H:Hp) (Q:Bool->Hp->Prop),Inv X pins σ H s->t σ H Q->wpAny (model X.prog X.w) X.A (isTrue e X.env whole) (TP X pins σ Q) X.xe s
theorem PW.pt{X:Cx}{e:OG}{t:TT}(h:PW X e t):PT X e t:=h _
def PA(X:Cx)(es:List OG)(t:TA):Prop:=
 ∀(pos:Pos) (pins:List (N9×Obj)) (s:Oa) (σ:St) (H:Hp) (Q:List V->Hp->Prop),Inv X pins σ H s->t σ H Q->wpAny (model X.prog X.w) X.A (spliced (backTo pos (starEach es X.env))) (AP X pins σ Q) X.xe s
def PS(X:Cx)(st:OE)(t:TS):Prop:=
 ∀(pins:List (N9×Obj)) (s:Oa) (σ:St) (H:Hp) (D:Ends),Inv X pins σ H s->t D σ H->wpAny (model X.prog X.w) X.A (exec st X.env) (SP X pins D) X.xe s
def PSs(X:Cx)(st:List OE)(t:TS):Prop:=
 ∀(pins:List (N9×Obj)) (s:Oa) (σ:St) (H:Hp) (D:Ends),Inv X pins σ H s->t D σ H->wpAny (model X.prog X.w) X.A (execs st X.env) (SP X pins D) X.xe s
theorem sh{α:Type}{t:Sem α}{Q Q':α->Oa->Prop}{M:Model}{A:OJ}{E:N8->Oa->Prop}{s:Oa}(h:wpAny M A t Q E s)(hQ:∀a s,Q a s->Q' a s):wpAny M A t Q' E s:=Pe h hQ fun _ _ x=>x
end L2
namespace L2
open PySem PySem.Spec PyProof.Rows
section
variable{X:Cx}
theorem bin{a b:OG}{ta tb:TE}(ha:PE X a ta)(hb:PE X b tb){pins:List (N9×Obj)}{s:Oa}{σ:St}{H:Hp}{R:V->V->Hp->Prop}(I:Inv X pins σ H s)(h:ta σ H fun x H1=>tb σ H1 fun y H2=>R x y H2)
  {α:Type} {Q:α->Oa->Prop} {f:N8->N8->Sem α}
  (hf:∀v u s2 x y H2,Inv X pins σ H2 s2->RelV x v->RelV y u->R x y H2->wpAny (model X.prog X.w) X.A (f v u) Q X.xe s2) :
  wpAny (model X.prog X.w) X.A (eval a X.env) (fun v s₁=>wpAny (model X.prog X.w) X.A (eval b X.env) (fun u s₂=>wpAny (model X.prog X.w) X.A (f v u) Q X.xe s₂) X.xe s₁) X.xe s:=by
 refine sh (ha pins s σ H _ I h) fun v s1 ⟨x,H1,I1,r1,q1⟩=>?_
 refine sh (hb pins s1 σ H1 _ I1 q1) fun u s2 ⟨y,H2,I2,r2,q2⟩=>?_
 exact hf v u s2 x y H2 I2 r1 r2 q2
def Jv(i:Nat):TE:=fun σ H Q=>∃v,σ[i]?=some (some v)/\Q v H
def tC(v:V):TE:=fun _ H Q=>Q v H
theorem jG{i:Nat}{x:Str}{pos:Pos}(hN:X.N[i]?=some x)(hv:BS X.env.scope x)(hd:(x==("__debug__" : Str))=false:=by decide)(hcd:(x==("__classdict__" : Str))=false:=by decide):PE X (.Name x pos) (Jv i):=by
 intro pins s σ H Q I h
 obtain⟨v,e,h⟩:=h
 obtain⟨m,hn,hl⟩:=I.loc
 obtain⟨u,r,l⟩:=hl i x v hN e hv
 have fin:EP X pins σ Q u s:=⟨v,H,I,r,h⟩
 rcases l with ⟨hk,hm⟩ | ⟨hk,c,hc,hcell⟩
 ·exact wpAny_Name (wpAny_loadName_local I.ok.kind hk hn hm fin) hd
 ·rcases hk with hk | hk
  ·exact wpAny_Name (wpAny_loadName_cell I.ok.kind hk hc hcell fin) hd
  ·exact wpAny_Name (wpAny_loadName_free I.ok.kind hk hc hcell fin hcd) hd
theorem Jf{i j pos}:PE X (.Constant (.int i) j pos) (tC (.int i)):=fun _ _ _ H _ I h=>wpAny_Constant_int ⟨.int i,H,I.tok _,⟨_,rfl⟩,h⟩
theorem KR{b j pos}:PE X (.Constant (.bool b) j pos) (tC (.bl b)):=fun _ _ _ H _ I h=>Constant_bool ⟨.bl b,H,I,rfl,h⟩
theorem Jw{j pos}:PE X (.Constant .none j pos) (tC .non):=fun _ _ _ H _ I h=>Constant_none ⟨.non,H,I,rfl,h⟩
theorem Fs{x j pos}:PE X (.Constant (.str x) j pos) (tC (.str x)):=fun _ _ _ H _ I h=>Calls.Constant_str ⟨.str x,H,I.tok _,⟨_,rfl⟩,h⟩
def Gl(X:Cx)(x:Str):Prop:=X.env.kindOf x=some .globalImplicit
theorem fu{E:N8->Oa->Prop}{pins:List (N9×Obj)}{s:Oa}{σ:St}{H:Hp}{x:Str}{u:N8}{pos:Pos}{Q:N8->Oa->Prop}(I:Inv X pins σ H s)(hg:Gl X x)(hm:X.mg x=some u)(h:Q u s)
  (hd:(x==("__debug__" : Str))=false:=by decide):wpAny (model X.prog X.w) X.A (eval (.Name x pos) X.env) Q E s:=
 Calls.Name_function_global I.ok.kind hg (Calls.loadGlobal_global (by rw[I.ok.glob];exact I.mod.glob.keeps I.bk) hm h) hd
theorem gy{E:N8->Oa->Prop}{pins:List (N9×Obj)}{s:Oa}{σ:St}{H:Hp}{x:Str}{u:N8}{pos:Pos}{Q:N8->Oa->Prop}(I:Inv X pins σ H s)(hg:Gl X x)(hm:X.mg x=none)(hv:bootBuiltins x=some u)(h:Q u s)
  (hn:x ≠ "__name__":=by decide) (hd:(x==("__debug__" : Str))=false:=by decide):wpAny (model X.prog X.w) X.A (eval (.Name x pos) X.env) Q E s:=by
 obtain⟨mb,h1,h2⟩:=I.mod.blt
 exact Calls.Name_function_global I.ok.kind hg (Calls.loadGlobal_builtin (by rw[I.ok.glob];exact I.mod.glob.keeps I.bk) hm (by rw[I.ok.blt];exact h1.keeps I.bk) ((h2 x hn).trans hv) h) hd
theorem kn{x:Str}{v:V}{u:N8}{pos:Pos}(hg:Gl X x)(hm:X.mg x=some u)(r:RelV v u)(hd:(x==("__debug__" : Str))=false:=by decide):PE X (.Name x pos) (tC v):=
 fun _ _ _ H _ I h=>fu I hg hm ⟨v,H,I,r,h⟩ hd
variable{a b:OG}{ta tb:TE}{pos:Pos}
variable{tA tB':TT}{rest:List OG}
def LS(t u:TT):TT:=fun σ H Q=>t σ H fun c H1=>if c=true then u σ H1 Q else Q false H1
def NT(t u:TT):TT:=fun σ H Q=>t σ H fun c H1=>if c=true then Q true H1 else u σ H1 Q
def Mp(t:TT):TT:=fun σ H Q=>t σ H fun c H1=>Q (!c) H1
theorem G2(ha:PT X a tA):PW X (.BoolOp .And [a] pos) tA:=by
 intro wh pins s σ H Q I h
 refine isTrue_and (sh (ha pins s σ H Q I h) fun c s1 e=>?_)
 cases c with
 | true=>exact isTrue_and_nil e
 | false=>exact e
theorem CG(ha:PT X a tA):PW X (.BoolOp .Or [a] pos) tA:=by
 intro wh pins s σ H Q I h
 refine isTrue_or (sh (ha pins s σ H Q I h) fun c s1 e=>?_)
 cases c with
 | false=>exact isTrue_or_nil e
 | true=>exact e
theorem Ji(ha:PT X a tA)(hb:PW X (.BoolOp .And (b::rest) pos) tB'):PW X (.BoolOp .And (a::b::rest) pos) (LS tA tB'):=by
 intro wh pins s σ H Q I h
 refine isTrue_and (sh (ha pins s σ H _ I h) fun c s1 ⟨H1,I1,q1⟩=>?_)
 cases c with
 | true=>exact hb wh pins s1 σ H1 Q I1 q1
 | false=>exact⟨H1,I1,q1⟩
theorem E_(ha:PT X a tA)(hb:PW X (.BoolOp .Or (b::rest) pos) tB'):PW X (.BoolOp .Or (a::b::rest) pos) (NT tA tB'):=by
 intro wh pins s σ H Q I h
 refine isTrue_or (sh (ha pins s σ H _ I h) fun c s1 ⟨H1,I1,q1⟩=>?_)
 cases c with
 | true=>exact⟨H1,I1,q1⟩
 | false=>exact hb wh pins s1 σ H1 Q I1 q1
theorem qS(ha:PT X a tA):PT X (.UnaryOp .Not a pos) (Mp tA):=by
 intro pins s σ H Q I h
 exact isTrue_not (ha pins s σ H (fun c H1=>Q (!c) H1) I h)
def Kv(ta tb:TE):TE:=fun σ H Q=>ta σ H fun x H1=>∃c,x=.bl c/\if c=true then tb σ H1 Q else Q (.bl false) H1
def Kg(ta:TE):TE:=fun σ H Q=>ta σ H fun x H1=>∃c,x=.bl c/\Q (.bl (!c)) H1
theorem qG{op}{t:TE}(h:PE X a t):PE X (.BoolOp op [a] pos) t:=fun pins s σ H Q I hw=>BoolOp_one (h pins s σ H Q I hw)
theorem qN(ha:PE X a ta)(hb:PE X (.BoolOp .And (b::rest) pos) tb):PE X (.BoolOp .And (a::b::rest) pos) (Kv ta tb):=by
 intro pins s σ H Q I h
 refine BoolOp_and (sh (ha pins s σ H _ I h) fun v s1 ⟨x,H1,I1,r1,q1⟩=>?_)
 obtain⟨c,rfl,q1⟩:=q1
 cases r1
 refine wpAny_truthy_bool ?_
 cases c with
 | true=>exact hb pins s1 σ H1 Q I1 q1
 | false=>exact⟨.bl false,H1,I1,rfl,q1⟩
theorem qV(ha:PE X a ta):PE X (.UnaryOp .Not a pos) (Kg ta):=by
 intro pins s σ H Q I h
 refine UnaryOp_ (sh (ha pins s σ H _ I h) fun v s1 ⟨x,H1,I1,r1,q1⟩=>?_)
 obtain⟨c,rfl,q1⟩:=q1
 cases r1
 exact not_of (wpAny_truthy_bool ⟨.bl (!c),H1,I1,rfl,q1⟩)
def NF(t:TT)(ta tb:TE):TE:=fun σ H Q=>t σ H fun c H1=>if c=true then ta σ H1 Q else tb σ H1 Q
theorem pF{c:OG}(hc:PT X c tA)(ha:PE X a ta)(hb:PE X b tb):PE X (.IfExp c a b pos) (NF tA ta tb):=by
 intro pins s σ H Q I h
 refine wpAny_IfExp (sh (hc pins s σ H _ I h) fun d s1 ⟨H1,I1,q1⟩=>?_)
 cases d with
 | true=>exact ha pins s1 σ H1 Q I1 q1
 | false=>exact hb pins s1 σ H1 Q I1 q1
end
end L2
namespace L2
open PySem PySem.Spec PyProof.Rows
def uJ(K:N_)(H:Hp)(a:N9)(xs:List V):Prop:=
 Rd H a (.lst xs) \/
  ∃(o:Obj) (its:Array N8) (n:Nat),K.lookup a=some o/\o.cls=.type "list" /\ o.dict=none/\o.data=.seq its n/\its.size<=sizeLine/\l4 xs its.toList
def vg(K:N_)(H:Hp)(a:N9)(xs:List V):Prop:=
 Rd H a (.tup xs) \/
  ∃(o:Obj) (its:Array N8) (n:Nat),K.lookup a=some o/\o.cls=.type "tuple" /\ o.dict=none/\o.data=.seq its n/\its.size<=sizeLine/\l4 xs its.toList
def LT:N8->N7 V
 | .none=>some .non
 | .bool b=>some (.bl b)
 | .int i _=>some (.int i)
 | .str x _=>some (.str x)
 | .bytes b _=>some (.byt b)
 | .float b _=>some (.flt b)
 | .ref a=>some (.ref a)
 | .type n=>some (.ty n)
 | _=>none
theorem RelV.abs{x:V}{u:N8}(r:RelV x u):LT u=some x:=by
 cases x with
 | non=>cases r;rfl
 | bl _=>cases r;rfl
 | int _=>obtain⟨t,rfl⟩:=r;rfl
 | str _=>obtain⟨t,rfl⟩:=r;rfl
 | byt _=>obtain⟨t,rfl⟩:=r;rfl
 | flt _=>obtain⟨t,rfl⟩:=r;rfl
 | ref _=>cases r;rfl
 | ty _=>cases r;rfl
theorem RelV.inj{x y:V}{u:N8}(r:RelV x u)(q:RelV y u):x=y:=Ow (r.abs.symm.trans q.abs)
theorem l4.inj:∀{xs ys:List V} {us:List N8},l4 xs us->l4 ys us->xs=ys
 | _,_,_,.nil,.nil=>rfl
 | _,_,_,.cons r t,.cons r' t'=>by rw[r.inj r',l4.inj t t']
section
variable{X:Cx}{pins:List (N9×Obj)}{σ:St}{H:Hp}{s:Oa}{a:N9}{xs ys:List V}
theorem uJ.of{K:N_}(h:H a=some (.lst xs)):uJ K H a xs:=.inl (.inl h)
theorem vg.of{K:N_}(h:H a=some (.tup xs)):vg K H a xs:=.inl (.inl h)
theorem Inv.list(I:Inv X pins σ H s)(h:uJ X.K H a xs):∃its:List N8,l4 xs its/\PlainL s.heap a its.toArray/\xs.length<=sizeLine:=by
 rcases h with h | ⟨o,its,n,hk,hc,hd,hs,hz,r⟩
 ·obtain⟨z,its,n,r,e⟩:=h.ok I.hok
  exact⟨its,r,⟨_,n,e,rfl,rfl,rfl⟩,z⟩
 ·refine⟨its.toList,r,⟨o,n,I.kIn a o hk,hc,hd,by simpa using hs⟩,?_⟩
  have e:=r.length
  simp only[Pf] at e
  omega
theorem Inv.tuple(I:Inv X pins σ H s)(h:vg X.K H a xs):∃its:List N8,l4 xs its/\IsTup s.heap a its.toArray/\xs.length<=sizeLine:=by
 rcases h with h | ⟨o,its,n,hk,hc,hd,hs,hz,r⟩
 ·obtain⟨z,its,r,p⟩:=h.ok I.hok
  exact⟨its,r,p.is,z⟩
 ·refine⟨its.toList,r,⟨o,I.kIn a o hk,hc,n,by simpa using hs⟩,?_⟩
  have e:=r.length
  simp only[Pf] at e
  omega
theorem Inv.list_inj(I:Inv X pins σ H s)(h:uJ X.K H a xs)(h':uJ X.K H a ys):xs=ys:=by
 obtain⟨its,r,⟨o,n,e,_,_,d⟩,_⟩:=I.list h
 obtain⟨its',r',⟨o',n',e',_,_,d'⟩,_⟩:=I.list h'
 rw[e] at e';cases e'
 rw[d] at d'
 injection d' with d1 _
 have:its=its':=by simpa using congrArg Array.toList d1
 subst this
 exact r.inj r'
theorem Inv.tuple_inj(I:Inv X pins σ H s)(h:vg X.K H a xs)(h':vg X.K H a ys):xs=ys:=by
 obtain⟨its,r,⟨o,e,_,n,d⟩,_⟩:=I.tuple h
 obtain⟨its',r',⟨o',e',_,n',d'⟩,_⟩:=I.tuple h'
 rw[e] at e';cases e'
 rw[d] at d'
 injection d' with d1 _
 have:its=its':=by simpa using congrArg Array.toList d1
 subst this
 exact r.inj r'
end
abbrev Cx.wish(X:Cx)(E:N8->Oa->Prop):Cx:={X with xe:=E}
abbrev Cx.nox(X:Cx):Cx:=X.wish fun _ _=>False
theorem Cx.Ok.wish{X:Cx}(ok:X.Ok)(E:N8->Oa->Prop):(X.wish E).Ok:=
 ⟨ok.mod,ok.kind,ok.glob,ok.blt,ok.above,ok.inj,ok.has,ok.cab,ok.hd,ok.frames,ok.stk,ok.exf,ok.bs,ok.bsz,ok.noex,ok.exfs,ok.funs,ok.frf⟩
theorem Cx.Ok.unwish{X:Cx}{E:N8->Oa->Prop}(ok:(X.wish E).Ok):X.Ok:=
 ⟨ok.mod,ok.kind,ok.glob,ok.blt,ok.above,ok.inj,ok.has,ok.cab,ok.hd,ok.frames,ok.stk,ok.exf,ok.bs,ok.bsz,ok.noex,ok.exfs,ok.funs,ok.frf⟩
section
variable{X:Cx}{pins:List (N9×Obj)}{σ:St}{H:Hp}{s:Oa}{E:N8->Oa->Prop}
theorem Inv.wish(I:Inv X pins σ H s)(E:N8->Oa->Prop):Inv (X.wish E) pins σ H s:=⟨I.ok.wish E,I.os,I.bare,I.base,I.loc,I.cell,I.free,I.freeC,I.pin,I.hok,I.len⟩
theorem Inv.unwish(I:Inv (X.wish E) pins σ H s):Inv X pins σ H s:=⟨I.ok.unwish,I.os,I.bare,I.base,I.loc,I.cell,I.free,I.freeC,I.pin,I.hok,I.len⟩
theorem SP.unwish{D:Ends}{f:Flow}{s':Oa}(h:SP (X.wish E) pins D f s'):SP X pins D f s':=by
 cases f with
 | next=>obtain⟨σ',H',I,q⟩:=h;exact⟨σ',H',I.unwish,q⟩
 | brk=>obtain⟨σ',H',I,q⟩:=h;exact⟨σ',H',I.unwish,q⟩
 | cont=>obtain⟨σ',H',I,q⟩:=h;exact⟨σ',H',I.unwish,q⟩
 | ret u=>obtain⟨v,σ',H',I,r,q⟩:=h;exact⟨v,σ',H',I.unwish,r,q⟩
theorem PE.nox{e:OG}{t:TE}(h:PE X.nox e t):PE X e t:=fun pins s σ H Q I hw =>
 Pe (h pins s σ H Q (I.wish _) hw) (fun _ _ ⟨v,H',I',r,q⟩=>⟨v,H',I'.unwish,r,q⟩) fun _ _ z=>False.elim z
theorem PT.nox{e:OG}{t:TT}(h:PT X.nox e t):PT X e t:=fun pins s σ H Q I hw =>
 Pe (h pins s σ H Q (I.wish _) hw) (fun _ _ ⟨H',I',q⟩=>⟨H',I'.unwish,q⟩) fun _ _ z=>False.elim z
theorem PSs.nox{st:List OE}{t:TS}(h:PSs X.nox st t):PSs X st t:=fun pins s σ H D I hw =>
 Pe (h pins s σ H D (I.wish _) hw) (fun _ _ q=>q.unwish) fun _ _ z=>False.elim z
end
section
variable{X:Cx}{st:OE}{rest:List OE}{t u:TS}{e:OG}{te:TE}{pos:Pos}
def K6:TS:=fun D σ H=>D.nx σ H
def Mw(t u:TS):TS:=fun D σ H=>t {D with nx:=u D} σ H
theorem yE:PSs X [] K6:=fun _ _ σ H _ I h=>wpAny_execs_nil ⟨σ,H,I,h⟩
theorem dM(h1:PS X st t)(h2:PSs X rest u):PSs X (st::rest) (Mw t u):=by
 intro pins s σ H D I h
 refine wpAny_execs_cons (sh (h1 pins s σ H {D with nx:=u D} I h) fun f s1 q=>?_)
 cases f with
 | next =>
  obtain⟨σ',H',I',q⟩:=q
  exact h2 pins s1 σ' H' D I' q
 | ret v=>exact q
 | brk=>exact q
 | cont=>exact q
theorem dh(h1:PS X st t):PSs X [st] t:=by
 intro pins s σ H D I h
 refine wpAny_execs_cons (sh (h1 pins s σ H D I h) fun f s1 q=>?_)
 cases f with
 | next=>exact wpAny_execs_nil q
 | ret v=>exact q
 | brk=>exact q
 | cont=>exact q
theorem Inv.quiet{pins:List (N9×Obj)}{σ:St}{H:Hp}{s:Oa}(I:Inv X pins σ H s):interactive X.env=false:=by simp[interactive,I.ok.kind]
def Ko(te:TE):TS:=fun D σ H=>te σ H fun _ H1=>D.nx σ H1
theorem qh(he:PE X e te)(hs:swapsWith e none pos.line X.env=pure false:=by rfl):PS X (.Expr e pos) (Ko te):=by
 intro pins s σ H D I h
 exact wpAny_Expr_any (sh (he pins s σ H _ I h) fun v s1 ⟨x,H1,I1,r1,q1⟩=>⟨σ,H1,I1,q1⟩) I.quiet hs
def L_(te:TE):TS:=fun D σ H=>te σ H D.rt
theorem j4(he:PE X e te):PS X (.Return (some e) pos) (L_ te):=by
 intro pins s σ H D I h
 exact wpAny_Return_some (sh (he pins s σ H _ I h) fun v s1 ⟨x,H1,I1,r1,q1⟩=>⟨x,σ,H1,I1,r1,q1⟩)
def L6(c:TT)(t u:TS):TS:=fun D σ H=>c σ H fun b H1=>if b=true then t D σ H1 else u D σ H1
theorem jw{c:OG}{a b:List OE}{tc:TT}(hc:PT X c tc)(ha:PSs X a t)(hb:PSs X b u):PS X (.If c a b pos) (L6 tc t u):=by
 intro pins s σ H D I h
 refine wpAny_If (sh (hc pins s σ H _ I h) fun d s1 ⟨H1,I1,q1⟩=>?_)
 cases d with
 | true=>exact ha pins s1 σ H1 D I1 q1
 | false=>exact hb pins s1 σ H1 D I1 q1
end
abbrev TG:=V->St->Hp->(St->Hp->Prop)->Prop
abbrev Nh:=List V->St->Hp->(St->Hp->Prop)->Prop
def PG(X:Cx)(target:OG)(t:TG):Prop:=
 ∀(pins:List (N9×Obj)) (s:Oa) (σ:St) (H:Hp) (v:V) (u:N8) (Q:St->Hp->Prop),Inv X pins σ H s->RelV v u->t v σ H Q ->
  wpAny (model X.prog X.w) X.A (assign target X.env u) (fun _ s'=>∃ σ' H',Inv X pins σ' H' s'/\Q σ' H') X.xe s
def PGs(X:Cx)(ts:List OG)(t:Nh):Prop:=
 ∀(pins:List (N9×Obj)) (s:Oa) (σ:St) (H:Hp) (vs:List V) (us:List N8) (Q:St->Hp->Prop),Inv X pins σ H s->l4 vs us->t vs σ H Q ->
  wpAny (model X.prog X.w) X.A (assignInOrder ((assignEach ts X.env).map (·.2)) us) (fun _ s'=>∃ σ' H',Inv X pins σ' H' s'/\Q σ' H') X.xe s
section
variable{X:Cx}{pos:Pos}
def HX(i:Nat):TG:=fun v σ H Q=>Q (σ.set i (some v)) H
theorem pU{i:Nat}{x:Str}(hN:X.N.Nodup)(hi:X.N[i]?=some x)(hx:Loc X.env.scope x)(hf:X.fn x=true\/X.env.scope.names.lookup x=some .local:=by first | exact .inl rfl | exact .inr rfl | assumption):PG X (.Name x pos) (HX i):=by
 intro pins s σ H v u Q I r h
 exact wpAny_assign_Name (zf I hN hi hx r (fun s' I'=>⟨_,H,I',h⟩) hf)
def Kj(te:TE)(g:TG):TS:=fun D σ H=>te σ H fun x H1=>g x σ H1 D.nx
theorem qW{tg e:OG}{te:TE}{g:TG}(he:PE X e te)(hg:PG X tg g)(hs:swapsWithSole [tg] e pos.line X.env=pure false:=by rfl)(hw:swappedStores [tg] e X.env=pure none:=by rfl)
  (h1:(assignEach [tg] X.env).map (·.2)=[assign tg X.env]:=by rfl):PS X (.Assign [tg] e pos) (Kj te g):=by
 intro pins s σ H D I h
 refine wpAny_Assign_stores (sh (he pins s σ H _ I h) fun v s1 ⟨x,H1,I1,r1,q1⟩=>?_) hs hw
 rw[h1]
 exact sh (hg pins s1 σ H1 x v _ I1 r1 q1) fun _ s2 q=>q
theorem gx{i:Nat}{x:Str}{e:OG}{te:TE}{pos':Pos}(hN:X.N.Nodup)(hi:X.N[i]?=some x)(hx:Loc X.env.scope x)(he:PE X e te)(hs:swapsWith e (some (.Name x pos')) pos.line X.env=pure false:=by rfl)(hf:X.fn x=true\/X.env.scope.names.lookup x=some .local:=by first | exact .inl rfl | exact .inr rfl | assumption) :
  PS X (.Assign [.Name x pos'] e pos) (Kj te (HX i)):=by
 intro pins s σ H D I h
 refine wpAny_Assign_Name (sh (he pins s σ H _ I h) fun v s1 ⟨y,H1,I1,r1,q1⟩=>?_) hs
 exact zf I1 hN hi hx r1 (fun s2 I2=>⟨_,H1,I2,q1⟩) hf
end
section
variable{X:Cx}{pos:Pos}
def Iq(c:TT)(tb:TS):TS:=fun D σ H=>∃W:Nat->St->Hp->Prop,(∃m,W m σ H)/\∀m σ H,W m σ H ->
 c σ H fun b H1=>if b=true then ∃N:St->Hp->Prop,(∀ σ' H',N σ' H'->∃m',m'<m/\W m' σ' H')/\tb {D with nx:=N,ct:=N,bk:=D.nx} σ H1 else D.nx σ H1
theorem oY{c:OG}{body:List OE}{tc:TT}{tb:TS}(hp:PassesOwn (model X.prog X.w) X.A X.env X.xe)(hc:PT X c tc)(hb:PSs X body tb):PS X (.While c body [] pos) (Iq tc tb):=by
 intro pins s σ H D I h
 obtain⟨W,⟨m0,w0⟩,turn⟩:=h
 refine wpAny_While (codeAny_whileLoop (fun n s'=>∃ σ' H',Inv X pins σ' H' s'/\W n σ' H') ?_ m0 ⟨σ,H,I,w0⟩)
 rintro n s1 ⟨σ1,H1,I1,w1⟩
 refine wpAny_passesOwn hp (sh (hc pins s1 σ1 H1 _ I1 (turn n σ1 H1 w1)) fun b s2 ⟨H2,I2,q2⟩=>?_)
 cases b with
 | true =>
  obtain⟨N,hN,q2⟩:=q2
  rw[Of rfl]
  refine wpAny_passesOwn hp (sh (hb pins s2 σ1 H2 _ I2 q2) fun f s3 q3=>?_)
  cases f with
  | next =>
   obtain⟨σ3,H3,I3,n3⟩:=q3
   obtain⟨m',hm,w3⟩:=hN σ3 H3 n3
   exact⟨m',hm,σ3,H3,I3,w3⟩
  | cont =>
   obtain⟨σ3,H3,I3,n3⟩:=q3
   obtain⟨m',hm,w3⟩:=hN σ3 H3 n3
   exact⟨m',hm,σ3,H3,I3,w3⟩
  | brk=>exact q3
  | ret v=>exact q3
 | false =>
  rw[Ov Oi]
  exact wpAny_execs_nil ⟨σ1,H2,I2,q2⟩
end
structure It where
 go:Nat->Hp->Prop
 yld:Nat->Hp->V->Hp->Prop
 stop:Nat->Hp->Prop
def xo(X:Cx)(pins:List (N9×Obj))(H:Hp)(b:N9):Prop:=
 H b=none/\b≠X.env.locals/\b∉X.fs/\(b∈X.ex\/X.s₀.heap.objs.size<=b)/\(∀x c,X.env.cells.lookup x=some c->c≠b)/\∀p∈X.pn++pins,p.1≠b
theorem Inv.fpOk{X:Cx}{pins:List (N9×Obj)}{σ:St}{H H':Hp}{s:Oa}{b:N9}(I:Inv X pins σ H s)(hb:s.heap.objs.size<=b)(hn:H' b=none):xo X pins H' b:=by
 refine⟨hn,Nat.ne_of_gt (Ol I.lt hb),I.nofs hb,.inr (OH I.sz hb),fun x c e z=>?_,fun p hp z=>?_⟩
 ·obtain⟨v,q⟩:=I.cell x c e
  exact OA (Ol q.lt (by rw[z];exact hb)) (OX _)
 ·exact OA (Ol (Om (I.pin p hp).1) (by rw[z];exact hb)) (OX _)
structure Turn (P:Oh) (w:Ot) (K:N_) (tg:OG) (J:It) (fp:List N9) (it:N9) (tn:Nat->OC->Prop):Prop where
 mem:it∈fp
 obj:∀i h,tn i h->∀b∈fp,∃o,h.get? b=some o/\∀v,o.data≠.cell v
 keep:∀i h h',tn i h->(∀b∈fp,∀o,h.get? b=some o->h'.get? b=some o)->tn i h'
 item:∀(X:Cx),X.prog=P->X.w=w->X.K=K->X.calm=true->∀(i:Nat) (pins:List (N9×Obj)) (s:Oa) (σ:St) (H:Hp) (E:N8->Oa->Prop),Inv X pins σ H s->(∀b∈fp,xo X pins H b)->tn i s.heap->J.go i H ->
  wpAny (model P w) X.A (pyNext (.ref it)) (fun r s1=>∃u,r=some u /\
   wpAny (model P w) X.A (letOwnedTupleGo tg (.ref it) u) (fun _ s2=>∃x H',Inv X pins σ H' s2/\RelV x u/\J.yld i H x H'/\tn (i+1) s2.heap/\∀b∈fp,H' b=none) E s1) E s
 done:∀(X:Cx),X.prog=P->X.w=w->X.K=K->X.calm=true->∀(i:Nat) (pins:List (N9×Obj)) (s:Oa) (σ:St) (H:Hp) (E:N8->Oa->Prop),Inv X pins σ H s->(∀b∈fp,xo X pins H b)->tn i s.heap->J.stop i H ->
  wpAny (model P w) X.A (pyNext (.ref it)) (fun r s1=>r=none/\Inv X pins σ H s1) E s
 self:∀(A:OJ) (i:Nat) (s:Oa) (Q:N8->Oa->Prop) (E:N8->Oa->Prop),tn i s.heap->Q (.ref it) s->wpAny (model P w) A (pyIter (.ref it)) Q E s
abbrev TI:=St->Hp->(It->Hp->Prop)->Prop
def Nr(X:Cx)(pins:List (N9×Obj))(σ:St)(tg:OG)(R:It->Hp->Prop)(itv:N8)(s2:Oa):Prop:=
 ∃(it:N9) (fp:List N9) (tn:Nat->OC->Prop) (J:It) (H':Hp),itv=.ref it/\Inv X pins σ H' s2/\Turn X.prog X.w X.K tg J fp it tn/\tn 0 s2.heap/\(∀b∈fp,xo X pins H' b)/\R J H'
def PI(X:Cx)(tg iter:OG)(wi:TI):Prop:=
 ∀(pins:List (N9×Obj)) (s:Oa) (σ:St) (H:Hp) (R:It->Hp->Prop),Inv X pins σ H s->wi σ H R ->
  wpAny (model X.prog X.w) X.A (eval iter X.env) (fun v s1=>wpAny (model X.prog X.w) X.A (pyIter v) (Nr X pins σ tg R) X.xe s1) X.xe s
theorem DG {M:Model} {A:OJ} {E:N8->Oa->Prop} {s:Oa} {tg:OG} {it:N9} {u:N8} {o:Obj} {n:String} {vs:Array N8} {Q:Unit->Oa->Prop} (ho:s.heap.get? it=some o) (hc:o.cls=.type n) (hd:o.data=.fields vs)
    (hn:["enumerate","zip","dict_itemiterator","dict_reverseitemiterator","odict_iterator","itertools.zip_longest","itertools.pairwise"].contains n=false) (hQ:Q () s):wpAny M A (letOwnedTupleGo tg (.ref it) u) Q E s:=by
  unfold letOwnedTupleGo
  cases tg<;>first
    | exact Ou hQ
    | (cases u<;>first
        | exact Ou hQ
        | (refine Ob (wpAny_load ho ?_)
           rw[hc,hd]
           show wpAny M A (if (["enumerate","zip","dict_itemiterator","dict_reverseitemiterator","odict_iterator","itertools.zip_longest","itertools.pairwise"].contains n&&vs[0]?==some (rawInt _))=true then _ else _) Q E s
           rw[Ov (by intro h;rw[hn,Bool.false_and] at h;cases h)]
           exact Ou hQ))
noncomputable def L9(K:N_)(a:N9):It:=
 ⟨fun i H=>∃xs x,uJ K H a xs/\xs[i]?=some x,fun i H x H'=>H'=H/\∀xs,uJ K H a xs->xs[i]?=some x,fun i H=>∃xs,uJ K H a xs/\xs.length<=i⟩
def MD(K:N_)(a:N9):It:=
 ⟨fun i H=>∃xs x,vg K H a xs/\xs[i]?=some x,fun i H x H'=>H'=H/\∀xs,vg K H a xs->xs[i]?=some x,fun i H=>∃xs,vg K H a xs/\xs.length<=i⟩
noncomputable def J2(lo:Int)(n:Nat):It:=⟨fun i _=>i<n,fun i H x H'=>H'=H/\x=.int (lo+i),fun i _=>n<=i⟩
theorem Em{P:Oh}{w:Ot}{K:N_}{tg:OG}(a it:N9):Turn P w K tg (L9 K a) [it] it (fun i h=>h.IsListIter it a i) where
 mem:=by simp
 obj:=fun i h st b hb=>by
  have e:b=it:=by simpa using hb
  subst e
  obtain⟨o,e,c,d⟩:=st
  exact⟨o,e,fun v z=>by rw[d] at z;cases z⟩
 keep:=fun i h h' st k=>st.at fun o e=>k it (by simp) o e
 item:=by
  intro X hP hw hK hc i pins s σ H E I hf st hg
  subst hP hw hK
  obtain⟨xs,x,hq,hx⟩:=hg
  obtain⟨its,rv,p,hz⟩:=I.list hq
  obtain⟨u,hu,ru⟩:=rv.get hx
  obtain⟨f0,f1,f2,f3,f4,f5⟩:=hf it (by simp)
  refine wpAny_pyNext_list_item st p.isList (x:=u) (by simpa using hu) fun h' st' sb=>?_
  have I1:Inv X pins σ H {s with heap:=h' }:=I.turned (t':=s.toks) (fun b o hb e=>(sb.2 b hb).trans e) f0 f1 f3 f4 f5
  obtain⟨o,e,c,d⟩:=id st'
  exact⟨u,rfl,DG (s:={s with heap:=h' }) e c d (by decide) ⟨x,H,I1,ru,⟨rfl,fun ys hy=>by rw[I.list_inj hy hq];exact hx⟩,st',fun b hb=>(hf b hb).1⟩⟩
 done:=by
  intro X hP hw hK hc i pins s σ H E I hf st hg
  subst hP hw hK
  obtain⟨xs,hq,hx⟩:=hg
  obtain⟨its,rv,p,hz⟩:=I.list hq
  obtain⟨f0,f1,f2,f3,f4,f5⟩:=hf it (by simp)
  have hl:=rv.length
  exact wpAny_pyNext_list_end (I.ok.hd hc) st p.isList (by simp;omega) fun h' eb=>⟨rfl,I.turned (t':=s.toks) (fun b o hb e=>eb b o hb e) f0 f1 f3 f4 f5⟩
 self:=fun _ _ _ _ _ st h=>wpAny_pyIter_listiter st h
theorem CO{P:Oh}{w:Ot}{K:N_}{tg:OG}(a it:N9):Turn P w K tg (MD K a) [it] it (fun i h=>h.IsTupleIter it a i) where
 mem:=by simp
 obj:=fun i h st b hb=>by
  have e:b=it:=by simpa using hb
  subst e
  obtain⟨o,e,c,d⟩:=st
  exact⟨o,e,fun v z=>by rw[d] at z;cases z⟩
 keep:=fun i h h' st k=>st.at fun o e=>k it (by simp) o e
 item:=by
  intro X hP hw hK hc i pins s σ H E I hf st hg
  subst hP hw hK
  obtain⟨xs,x,hq,hx⟩:=hg
  obtain⟨its,rv,p,hz⟩:=I.tuple hq
  obtain⟨u,hu,ru⟩:=rv.get hx
  obtain⟨f0,f1,f2,f3,f4,f5⟩:=hf it (by simp)
  refine wpAny_pyNext_tuple_item st (show s.heap.IsTuple a its.toArray from p) (x:=u) (by simpa using hu) fun h' st' sb=>?_
  have I1:Inv X pins σ H {s with heap:=h' }:=I.turned (t':=s.toks) (fun b o hb e=>(sb.2 b hb).trans e) f0 f1 f3 f4 f5
  obtain⟨o,e,c,d⟩:=id st'
  exact⟨u,rfl,DG (s:={s with heap:=h' }) e c d (by decide) ⟨x,H,I1,ru,⟨rfl,fun ys hy=>by rw[I.tuple_inj hy hq];exact hx⟩,st',fun b hb=>(hf b hb).1⟩⟩
 done:=by
  intro X hP hw hK hc i pins s σ H E I hf st hg
  subst hP hw hK
  obtain⟨xs,hq,hx⟩:=hg
  obtain⟨its,rv,p,hz⟩:=I.tuple hq
  obtain⟨f0,f1,f2,f3,f4,f5⟩:=hf it (by simp)
  have hl:=rv.length
  exact wpAny_pyNext_tuple_end (I.ok.hd hc) st (show s.heap.IsTuple a its.toArray from p) (by simp;omega) fun h' eb=>⟨rfl,I.turned (t':=s.toks) (fun b o hb e=>eb b o hb e) f0 f1 f3 f4 f5⟩
 self:=fun _ _ _ _ _ st h=>wpAny_pyIter_tupleiter st h
theorem CC{P:Oh}{w:Ot}{K:N_}{tg:OG}(it:N9)(lo:Int)(n:Nat):Turn P w K tg (J2 lo n) [it] it (fun i h=>IsRangeIter h it (lo+(i:Nat)*1) ((n:Int) - (i:Nat)) 1) where
 mem:=by simp
 obj:=fun i h st b hb=>by
  have e:b=it:=by simpa using hb
  subst e
  exact⟨_,st,fun v z=>by
   have z':Data.fields _=Data.cell v:=z
   cases z'⟩
 keep:=fun i h h' st k=>k it (by simp) _ st
 item:=by
  intro X hP hw hK hc i pins s σ H E I hf st hg
  subst hP hw hK
  obtain⟨f0,f1,f2,f3,f4,f5⟩:=hf it (by simp)
  have W:=Walks.range (prog:=X.prog) (w:=X.w) (I.ok.hd hc) it lo 1 n
  refine W.item i s _ _ hg st fun v h' tk hv st' kk=>?_
  obtain⟨t,rfl⟩:=hv
  have I1:Inv X pins σ H {s with heap:=h',toks:=tk}:=I.turned (fun b o hb e=>kk b o (by simpa using hb) e) f0 f1 f3 f4 f5
  refine⟨_,rfl,DG (s:={s with heap:=h',toks:=tk}) (n:="range_iterator") st' rfl rfl (by decide) ⟨.int (lo+i),H,I1,⟨t,?_⟩,⟨rfl,rfl⟩,st',fun b hb=>(hf b hb).1⟩⟩
  rw[Int.mul_one]
 done:=by
  intro X hP hw hK hc i pins s σ H E I hf st hg
  subst hP hw hK
  obtain⟨f0,f1,f2,f3,f4,f5⟩:=hf it (by simp)
  exact wpAny_pyNext_range_end (I.ok.hd hc) st (by have:n<=i:=hg;omega) fun h' eb=>⟨rfl,I.turned (t':=s.toks) (fun b o hb e=>eb b o hb e) f0 f1 f3 f4 f5⟩
 self:=fun _ _ _ _ _ st h=>wpAny_pyIter_rangeiter st h
end L2
namespace L2
open PySem PySem.Spec PyProof.Rows
section
variable{X:Cx}{tg:OG}
theorem Fg{pins:List (N9×Obj)}{σ:St}{H:Hp}{s:Oa}{R:It->Hp->Prop}{E:N8->Oa->Prop}{lo hi:Int}{t u v:Tok}{tk:Nat}(I:Inv X pins σ H s)(h1 : -(2 ^ 62)<=lo)(h2:lo<2 ^ 62)(h3 : -(2 ^ 62)<=hi)(h4:hi<2 ^ 62)
  (q:R (J2 lo (hi - lo).toNat) H):wpAny (model X.prog X.w) X.A (pyIter (.ref s.heap.objs.size)) (Nr X pins σ tg R) E {s with heap:=s.heap.push {cls:=.type "range",data:=.fields #[.int lo t,.int hi u,.int 1 v]},toks:=tk}:=by
 refine wpAny_pyIter_range (IsRange.new ..) (small_one h1 h2 h3 h4) ?_
 have I1:Inv X pins σ H {s with heap:=s.heap.push {cls:=.type "range",data:=.fields #[.int lo t,.int hi u,.int 1 v]},toks:=tk}:=I.kept fun b o e=>Og _ e
 refine⟨(s.heap.push {cls:=.type "range",data:=.fields #[.int lo t,.int hi u,.int 1 v]}).objs.size,[(s.heap.push {cls:=.type "range",data:=.fields #[.int lo t,.int hi u,.int 1 v]}).objs.size],_,_,H,rfl,
  I1.kept (t':=tk) fun b o e=>Og _ e,CC _ lo (hi - lo).toNat,?_,fun b hb=>?_,q⟩
 ·have e1:lo+((0:Nat):Int)*1=lo:=by simp
  have e2:(((hi - lo).toNat:Nat):Int) - ((0:Nat):Int)=Builtin.Range.rangeSize lo hi 1:=by rw[rangeSize_one];split<;>omega
  show IsRangeIter _ _ (lo+((0:Nat):Int)*1) ((((hi - lo).toNat:Nat):Int) - ((0:Nat):Int)) 1
  rw[e1,e2]
  exact Ox _ rfl
 ·have e:b=(s.heap.push {cls:=.type "range",data:=.fields #[.int lo t,.int hi u,.int 1 v]}).objs.size:=by simpa using hb
  subst e
  exact I1.fpOk (Oo _) (I1.hok.fresh (Oo _))
def K0(ta:TA):TI:=fun σ H R=>ta σ H fun vs H1=>∃j:Int,vs=[.int j] /\ -(2 ^ 62)<=j/\j<2 ^ 62/\R (J2 0 j.toNat) H1
theorem jA{a:OG}{ta:TA}{p pos:Pos}(hg:Gl X "range")(hm:X.mg "range" = none)(ha:PA X [a] ta)(hs:starEach [a] X.env=[(false,eval a X.env)]:=by rfl):PI X tg (.Call (.Name "range" p) [a] [] pos) (K0 ta):=by
 intro pins s σ H R I h
 refine Call_ (gy I hg hm boot_range (PyProof.Rows.callWith_type1 (sh (ha pos pins s σ H _ I h) fun us s1 ⟨vs,H1,I1,r1,q1⟩=>?_) hs rfl))
 obtain⟨j,e,q1,q2,q⟩:=q1
 subst e
 cases r1 with
 | cons r rr =>
  cases rr
  obtain⟨t,rfl⟩:=r
  exact call_range_1 (Fg I1 (by omega) (by omega) q1 q2 (by simpa using q))
noncomputable def Mj(wi:TI)(g:TG)(tb:TS):TS:=fun D σ H=>wi σ H fun J H1=>∃W:Nat->Nat->St->Hp->Prop,(∃m,W 0 m σ H1)/\∀i m σ H,W i m σ H ->
 (J.stop i H/\D.nx σ H)\/(J.go i H/\∃N:St->Hp->Prop,(∀ σ' H',N σ' H'->∃m',m'<m/\W (i+1) m' σ' H')/\∀x H',J.yld i H x H'->g x σ H' fun σ2 H2=>tb {D with nx:=N,ct:=N,bk:=D.nx} σ2 H2)
def wQ(fp:List N9)(h:OC):List (N9×Obj):=fp.filterMap fun b=>(h.get? b).map fun o=>(b,o)
theorem cZ{fp:List N9}{h:OC}{b:N9}{o:Obj}(hb:b∈fp)(e:h.get? b=some o):(b,o)∈wQ fp h:=List.mem_filterMap.mpr ⟨b,hb,by rw[e];rfl⟩
theorem Ah{fp:List N9}{h:OC}{p:N9×Obj}(hp:p∈wQ fp h):p.1∈fp/\h.get? p.1=some p.2:=by
 obtain⟨b,hb,e⟩:=List.mem_filterMap.mp hp
 cases q:h.get? b with
 | none=>rw[q] at e;cases e
 | some o =>
  rw[q] at e
  have e':(b,o)=p:=Ow e
  subst e'
  exact⟨hb,q⟩
theorem Inv.pinned{pins:List (N9×Obj)}{σ:St}{H:Hp}{s:Oa}{fp:List N9}(I:Inv X pins σ H s)(hf:∀b∈fp,xo X pins H b)(ho:∀b∈fp,∃o,s.heap.get? b=some o/\∀v,o.data≠.cell v):Inv X (pins++wQ fp s.heap) σ H s:=
 I.pins_of fun p hp=>(Pi.mp hp).elim (fun z=>I.pin p (OM _ z)) fun z=>by
  obtain⟨hb,e⟩:=Ah z
  obtain⟨f0,f1,f2,_⟩:=hf p.1 hb
  obtain⟨o,e',d⟩:=ho p.1 hb
  rw[e] at e';cases e'
  exact⟨e,f0,f1,f2,d⟩
theorem Inv.unpinned{pins pl:List (N9×Obj)}{σ:St}{H:Hp}{s:Oa}(I:Inv X (pins++pl) σ H s):Inv X pins σ H s:=I.pins_of fun p hp=>I.pin p (OM _ (O3 _ hp))
theorem oZ{iter:OG}{body:List OE}{wi:TI}{g:TG}{tb:TS}{pos:Pos}(hp:PassesOwn (model X.prog X.w) X.A X.env X.xe)(hc:X.calm=true)(hi:PI X tg iter wi)(hg:PG X tg g)(hb:PSs X body tb)
  (hs:∀x,foldedSetIterable iter X.env x=pure x:=by intro _;rfl):PS X (.For tg iter body [] pos) (Mj wi g tb):=by
 intro pins s σ H D I h
 refine wpAny_For (sh (hi pins s σ H _ I h) fun v s1 h1=>sh h1 fun itv s2 h2=>?_) hs
 obtain⟨it,fp,tn,J,H2,e,I2,T,st2,f2,W,⟨m0,w0⟩,turn⟩:=h2
 subst e
 have stat:∀{H':Hp},(∀b∈fp,H' b=none)->∀b∈fp,xo X pins H' b:=fun hn b hb=>⟨hn b hb,(f2 b hb).2⟩
 refine codeAny_forLoop_any (fun n s'=>∃i σ' H',Inv X pins σ' H' s'/\tn i s'.heap/\(∀b∈fp,H' b=none)/\W i n σ' H') ?_ m0 ⟨0,σ,H2,I2,st2,fun b hb=>(f2 b hb).1,w0⟩
 rintro n s3 ⟨i,σ3,H3,I3,st3,fr3,w3⟩
 rcases turn i n σ3 H3 w3 with ⟨stop,qn⟩ | ⟨go,N,hN,step⟩
 ·refine wpAny_passesOwn hp (sh (T.done X rfl rfl rfl hc i pins s3 σ3 H3 X.xe I3 (stat fr3) st3 stop) fun r s4 ⟨hr,I4⟩=>?_)
  subst hr
  exact wpAny_execs_nil ⟨σ3,H3,I4,qn⟩
 ·refine wpAny_passesOwn hp (sh (T.item X rfl rfl rfl hc i pins s3 σ3 H3 X.xe I3 (stat fr3) st3 go) fun r s4 ⟨u,hr,h4⟩=>?_)
  subst hr
  refine wpAny_passesOwn hp (sh h4 fun _ s5 ⟨x,H5,I5,r5,y5,st5,fr5⟩=>?_)
  have I5':=I5.pinned (stat fr5) (T.obj _ _ st5)
  refine wpAny_passesOwn hp (sh (hg _ s5 σ3 H5 x u _ I5' r5 (step x H5 y5)) fun _ s6 ⟨σ6,H6,I6,q6⟩=>?_)
  refine wpAny_passesOwn hp (sh (hb _ s6 σ6 H6 _ I6 q6) fun f s7 q7=>?_)
  have again:∀{σ7:St} {H7:Hp},Inv X (pins++wQ fp s5.heap) σ7 H7 s7->N σ7 H7->∃m,m<n/\∃i σ' H',Inv X pins σ' H' s7/\tn i s7.heap/\(∀b∈fp,H' b=none)/\W i m σ' H':=fun {σ7 H7} I7 n7=>by
   obtain⟨m',hm,w7⟩:=hN σ7 H7 n7
   refine⟨m',hm,i+1,σ7,H7,I7.unpinned,T.keep _ _ _ st5 fun b hb o e=>(I7.pin (b,o) (OM _ (OM _ (cZ hb e)))).1,fun b hb=>?_,w7⟩
   obtain⟨o,e,d⟩:=T.obj _ _ st5 b hb
   exact(I7.pin (b,o) (OM _ (OM _ (cZ hb e)))).2.1
  cases f with
  | next=>obtain⟨σ7,H7,I7,n7⟩:=q7;exact again I7 n7
  | cont=>obtain⟨σ7,H7,I7,n7⟩:=q7;exact again I7 n7
  | brk=>obtain⟨σ7,H7,I7,q7⟩:=q7;exact⟨σ7,H7,I7.unpinned,q7⟩
  | ret v=>obtain⟨x7,σ7,H7,I7,r7,q7⟩:=q7;exact⟨x7,σ7,H7,I7.unpinned,r7,q7⟩
end
end L2
namespace L2
open PySem PySem.Spec PyProof.Rows
abbrev R2:=V->V->Hp->VK->Prop
def OpR(X:Cx)(f:N8->N8->Sem N8)(r:R2):Prop:=
 ∀(pins:List (N9×Obj)) (s:Oa) (σ:St) (H:Hp) (x y:V) (v u:N8) (Q:VK),Inv X pins σ H s->RelV x v->RelV y u->r x y H Q ->
  wpAny (model X.prog X.w) X.A (f v u) (EP X pins σ Q) X.xe s
def UnR(X:Cx)(f:N8->Sem N8)(r:V->Hp->VK->Prop):Prop:=
 ∀(pins:List (N9×Obj)) (s:Oa) (σ:St) (H:Hp) (x:V) (v:N8) (Q:VK),Inv X pins σ H s->RelV x v->r x H Q ->
  wpAny (model X.prog X.w) X.A (f v) (EP X pins σ Q) X.xe s
def CallR(X:Cx)(f:N8)(r:List V->Hp->VK->Prop):Prop:=
 ∀(pins:List (N9×Obj)) (s:Oa) (σ:St) (H:Hp) (xs:List V) (us:List N8) (Q:VK),Inv X pins σ H s->l4 xs us->r xs H Q ->
  wpAny (model X.prog X.w) X.A (call f us) (EP X pins σ Q) X.xe s
def Mg(X:Cx)(r:V->Hp->(Bool->Hp->Prop)->Prop):Prop:=
 ∀(pins:List (N9×Obj)) (s:Oa) (σ:St) (H:Hp) (x:V) (v:N8) (Q:Bool->Hp->Prop),Inv X pins σ H s->RelV x v->r x H Q ->
  wpAny (model X.prog X.w) X.A (truthy v) (TP X pins σ Q) X.xe s
def LK(r:R2)(ta tb:TE):TE:=fun σ H Q=>ta σ H fun x H1=>tb σ H1 fun y H2=>r x y H2 Q
def NB(r:V->Hp->VK->Prop)(ta:TE):TE:=fun σ H Q=>ta σ H fun x H1=>r x H1 Q
def rI(C:Int->Int->Prop)(g:Int->Int->V):R2:=fun x y H Q=>∃i j,x=.int i/\y=.int j/\C i j/\Q (g i j) H
def GJ(g:Int->Int->V):R2:=fun x y H Q=>∃i j,x=.int i/\y=.int j/\Q (g i j) H
def rU(g:Int->V):V->Hp->VK->Prop:=fun x H Q=>∃i,x=.int i/\Q (g i) H
section
variable{X:Cx}{a b c:OG}{ta tb tc:TE}{pos:Pos}
theorem Jq(ha:PE X a ta)(hb:PE X b tb){pins:List (N9×Obj)}{s:Oa}{σ:St}{H:Hp}{R:V->V->Hp->Prop}(I:Inv X pins σ H s)
  (h:ta σ H fun x H1=>tb σ H1 fun y H2=>R x y H2) {Q:N8->Oa->Prop} {f:N8->N8->Sem N8}
  (hf:∀v u s2 x y H2,Inv X pins σ H2 s2->RelV x v->RelV y u->R x y H2->wpAny (model X.prog X.w) X.A (f v u) Q X.xe s2) :
  wpAny (model X.prog X.w) X.A (eval a X.env) (fun v s₁=>wpAny (model X.prog X.w) X.A (eval b X.env) (fun u s₂=>wpAny (model X.prog X.w) X.A (f v u) Q X.xe s₂) X.xe s₁) X.xe s:=by
 refine sh (ha pins s σ H _ I h) fun v s1 ⟨x,H1,I1,r1,q1⟩=>?_
 refine sh (hb pins s1 σ H1 _ I1 q1) fun u s2 ⟨y,H2,I2,r2,q2⟩=>?_
 exact hf v u s2 x y H2 I2 r1 r2 q2
theorem rC{op:Operator}{r:R2}(ho:OpR X (binaryOp op) r)(ha:PE X a ta)(hb:PE X b tb):PE X (.BinOp a op b pos) (LK r ta tb):=by
 intro pins s σ H Q I h
 exact wpAny_BinOp (Jq ha hb I h fun v u s2 x y H2 I2 rx ry q=>ho pins s2 σ H2 x y v u Q I2 rx ry q)
theorem rk{op:UnaryOp}{r:V->Hp->VK->Prop}(ho:UnR X (unaryOp op) r)(ha:PE X a ta):PE X (.UnaryOp op a pos) (NB r ta):=by
 intro pins s σ H Q I h
 exact UnaryOp_ (sh (ha pins s σ H _ I h) fun v s1 ⟨x,H1,I1,r1,q1⟩=>ho pins s1 σ H1 x v Q I1 r1 q1)
theorem Mi{f:N8->N8->Sem N8}{C:Int->Int->Prop}{g:Int->Int->Int}
  (rule:∀(i j:Int) (t u:Tok) (s:Oa) (Q:N8->Oa->Prop) (E:N8->Oa->Prop),C i j->Q (.int (g i j) s.toks) {s with toks:=s.toks+1}->wpAny (model X.prog X.w) X.A (f (.int i t) (.int j u)) Q E s) :
  OpR X f (rI C fun i j=>.int (g i j)):=by
 intro pins s σ H x y v u Q I rx ry h
 obtain⟨i,j,rfl,rfl,hc,q⟩:=h
 obtain⟨t,rfl⟩:=rx
 obtain⟨t',rfl⟩:=ry
 exact rule i j t t' s _ _ hc ⟨.int (g i j),H,I.tok _,⟨_,rfl⟩,q⟩
theorem Ll{f:N8->N8->Sem N8}{g:Int->Int->Int}
  (rule:∀(i j:Int) (t u:Tok) (s:Oa) (Q:N8->Oa->Prop) (E:N8->Oa->Prop),Q (.int (g i j) s.toks) {s with toks:=s.toks+1}->wpAny (model X.prog X.w) X.A (f (.int i t) (.int j u)) Q E s) :
  OpR X f (GJ fun i j=>.int (g i j)):=by
 intro pins s σ H x y v u Q I rx ry h
 obtain⟨i,j,rfl,rfl,q⟩:=h
 obtain⟨t,rfl⟩:=rx
 obtain⟨t',rfl⟩:=ry
 exact rule i j t t' s _ _ ⟨.int (g i j),H,I.tok _,⟨_,rfl⟩,q⟩
theorem GZ{f:N8->N8->Sem N8}{g:Int->Int->Bool}
  (rule:∀(i j:Int) (t u:Tok) (s:Oa) (Q:N8->Oa->Prop) (E:N8->Oa->Prop),Q (.bool (g i j)) s->wpAny (model X.prog X.w) X.A (f (.int i t) (.int j u)) Q E s) :
  OpR X f (GJ fun i j=>.bl (g i j)):=by
 intro pins s σ H x y v u Q I rx ry h
 obtain⟨i,j,rfl,rfl,q⟩:=h
 obtain⟨t,rfl⟩:=rx
 obtain⟨t',rfl⟩:=ry
 exact rule i j t t' s _ _ ⟨.bl (g i j),H,I,rfl,q⟩
def Mq(i j:Int):Prop:=0<j/\j<1073741824
def IQ(i j:Int):Prop:=(-(2 ^ 64)<i/\i<2 ^ 64)\/(-(2 ^ 64)<j/\j<2 ^ 64)
theorem IQ.ok{i j:Int}(h:IQ i j):IntMulOk i j:=by
 rcases h with ⟨h1,h2⟩ | ⟨h1,h2⟩
 ·exact .of_left (intBits_le_64 h1 h2)
 ·exact .of_right (intBits_le_64 h1 h2)
theorem Jl:OpR X (binaryOp .Add) (GJ fun i j=>.int (i+j)):=Ll fun _ _ _ _ _ _ _ q=>add_int q
theorem Id:OpR X (binaryOp .Sub) (GJ fun i j=>.int (i - j)):=Ll fun _ _ _ _ _ _ _ q=>sub_int q
theorem Io:OpR X (binaryOp .Mult) (rI IQ fun i j=>.int (i*j)):=Mi fun _ _ _ _ _ _ _ hc q=>mul_int q hc.ok
theorem Ho:OpR X (binaryOp .FloorDiv) (rI Mq fun i j=>.int (i / j)):=Mi fun i j _ _ _ _ _ hc q=>by
 have h1:(0:Int)<j:=hc.1
 have h2:j<1073741824:=hc.2
 exact floordiv_int (by omega) (by rw[Int.fdiv_eq_ediv_of_nonneg i (by omega)];exact q) (.inl (PyProof.noPylong_small (by omega)))
theorem IK:OpR X (binaryOp .Mod) (rI (fun _ j=>0<j) fun i j=>.int (i%j)):=Mi fun i j _ _ _ _ _ hc q=>by
 have h1:(0:Int)<j:=hc
 exact mod_int' (by omega) (by rw[Int.fmod_eq_emod_of_nonneg i (by omega)];exact q)
theorem NE{f:N8->Sem N8}{g:Int->Int}
  (rule:∀(i:Int) (t:Tok) (s:Oa) (Q:N8->Oa->Prop) (E:N8->Oa->Prop),Q (.int (g i) s.toks) {s with toks:=s.toks+1}->wpAny (model X.prog X.w) X.A (f (.int i t)) Q E s) :
  UnR X f (rU fun i=>.int (g i)):=by
 intro pins s σ H x v Q I rx h
 obtain⟨i,rfl,q⟩:=h
 obtain⟨t,rfl⟩:=rx
 exact rule i t s _ _ ⟨.int (g i),H,I.tok _,⟨_,rfl⟩,q⟩
theorem IM:UnR X (unaryOp .USub) (rU fun i=>.int (-i)):=NE fun _ _ _ _ _ q=>neg_int q
end
noncomputable def GT:V->V->Bool
 | .non,.non=>true | .non,.int _=>true | .int _,.non=>true | .non,.bl _=>true | .bl _,.non=>true | .non,.str _=>true | .str _,.non=>true
 | .int _,.int _=>true | .bl _,.bl _=>true | .str _,.str _=>true | .byt _,.byt _=>true
 | .int _,.str _=>true | .str _,.int _=>true | .bl _,.str _=>true | .str _,.bl _=>true
 | _,_=>false
def N4:R2:=fun x y H Q=>GT x y=true/\Q (.bl (decide (x=y))) H
def N2:R2:=fun x y H Q=>GT x y=true/\Q (.bl (!decide (x=y))) H
theorem yH{i j:Int}:decide (V.int i=V.int j)=(i==j):=by
 rw[Bool.eq_iff_iff]
 simp
theorem AI{i j:Bool}:decide (V.bl i=V.bl j)=(i==j):=by
 rw[Bool.eq_iff_iff]
 simp
theorem yC{i j:Str}:decide (V.str i=V.str j)=(i==j):=by
 rw[Bool.eq_iff_iff]
 simp
theorem DM{i j:Array UInt8}:decide (V.byt i=V.byt j)=(i.toList==j.toList):=by
 rw[Bool.eq_iff_iff]
 cases i
 cases j
 simp
section
variable{X:Cx}{a b c:OG}{ta tb tc:TE}{pos:Pos}
theorem rH{pins:List (N9×Obj)}{σ:St}{H:Hp}{s:Oa}{Q:VK}{k k':Bool}(I:Inv X pins σ H s)(q:Q (.bl k) H)(e:k=k'):EP X pins σ Q (.bool k') s:=by
 subst e
 exact⟨.bl k,H,I,rfl,q⟩
theorem Kh:OpR X (compareOp .Eq) N4:=by
 intro pins s σ H x y v u Q I rx ry h
 obtain⟨hs,q⟩:=h
 cases x with
 | non =>
  cases rx
  cases y with
  | non=>cases ry;exact PySem.EqNone.eq_none_none (rH I q (by simp))
  | bl j=>cases ry;exact PySem.EqNone.eq_none_bool (rH I q (by simp))
  | int j=>obtain⟨t',rfl⟩:=ry;exact PySem.EqNone.eq_none_int (rH I q (by simp))
  | str j=>obtain⟨t',rfl⟩:=ry;exact PySem.EqNone.eq_none_str (rH I q (by simp))
  | _=>exact OA (show false=true from hs) Oi
 | bl i =>
  cases rx
  cases y with
  | non=>cases ry;exact PySem.EqNone.eq_bool_none (rH I q (by simp))
  | bl j=>cases ry;exact eq_bool (rH I q AI)
  | str j=>obtain⟨t',rfl⟩:=ry;exact PySem.EqMixed.eq_bool_str (rH I q (by simp))
  | _=>exact OA (show false=true from hs) Oi
 | int i =>
  obtain⟨t,rfl⟩:=rx
  cases y with
  | non=>cases ry;exact PySem.EqNone.eq_int_none (rH I q (by simp))
  | int j=>obtain⟨t',rfl⟩:=ry;exact eq_int (rH I q yH)
  | str j=>obtain⟨t',rfl⟩:=ry;exact PySem.EqMixed.eq_int_str (rH I q (by simp))
  | _=>exact OA (show false=true from hs) Oi
 | str i =>
  obtain⟨t,rfl⟩:=rx
  cases y with
  | non=>cases ry;exact PySem.EqNone.eq_str_none (rH I q (by simp))
  | bl j=>cases ry;exact PySem.EqMixed.eq_str_bool (rH I q (by simp))
  | int j=>obtain⟨t',rfl⟩:=ry;exact PySem.EqMixed.eq_str_int (rH I q (by simp))
  | str j=>obtain⟨t',rfl⟩:=ry;exact eq_str (rH I q yC)
  | _=>exact OA (show false=true from hs) Oi
 | byt i =>
  obtain⟨t,rfl⟩:=rx
  cases y with
  | byt j=>obtain⟨t',rfl⟩:=ry;exact PySem.W.eq_bytes (rH I q DM)
  | _=>exact OA (show false=true from hs) Oi
 | _=>cases y<;>exact OA (show false=true from hs) Oi
theorem Lu:OpR X (compareOp .NotEq) N2:=by
 intro pins s σ H x y v u Q I rx ry h
 obtain⟨hs,q⟩:=h
 cases x with
 | non =>
  cases rx
  cases y with
  | non=>cases ry;exact PySem.EqNone.ne_none_none (rH I q (by simp))
  | bl j=>cases ry;exact PySem.EqNone.ne_none_bool (rH I q (by simp))
  | int j=>obtain⟨t',rfl⟩:=ry;exact PySem.EqNone.ne_none_int (rH I q (by simp))
  | str j=>obtain⟨t',rfl⟩:=ry;exact PySem.EqNone.ne_none_str (rH I q (by simp))
  | _=>exact OA (show false=true from hs) Oi
 | bl i =>
  cases rx
  cases y with
  | non=>cases ry;exact PySem.EqNone.ne_bool_none (rH I q (by simp))
  | bl j=>cases ry;exact ne_bool (rH I q (congrArg not AI))
  | str j=>obtain⟨t',rfl⟩:=ry;exact PySem.EqMixed.ne_bool_str (rH I q (by simp))
  | _=>exact OA (show false=true from hs) Oi
 | int i =>
  obtain⟨t,rfl⟩:=rx
  cases y with
  | non=>cases ry;exact PySem.EqNone.ne_int_none (rH I q (by simp))
  | int j=>obtain⟨t',rfl⟩:=ry;exact ne_int (rH I q (congrArg not yH))
  | str j=>obtain⟨t',rfl⟩:=ry;exact PySem.EqMixed.ne_int_str (rH I q (by simp))
  | _=>exact OA (show false=true from hs) Oi
 | str i =>
  obtain⟨t,rfl⟩:=rx
  cases y with
  | non=>cases ry;exact PySem.EqNone.ne_str_none (rH I q (by simp))
  | bl j=>cases ry;exact PySem.EqMixed.ne_str_bool (rH I q (by simp))
  | int j=>obtain⟨t',rfl⟩:=ry;exact PySem.EqMixed.ne_str_int (rH I q (by simp))
  | str j=>obtain⟨t',rfl⟩:=ry;exact ne_str (rH I q (congrArg not yC))
  | _=>exact OA (show false=true from hs) Oi
 | byt i =>
  obtain⟨t,rfl⟩:=rx
  cases y with
  | byt j=>obtain⟨t',rfl⟩:=ry;exact PySem.W.ne_bytes (rH I q (congrArg not DM))
  | _=>exact OA (show false=true from hs) Oi
 | _=>cases y<;>exact OA (show false=true from hs) Oi
theorem KC:OpR X (compareOp .Lt) (GJ fun i j=>.bl (decide (i<j))):=GZ fun _ _ _ _ _ _ _ q=>lt_int q
theorem Kr:OpR X (compareOp .LtE) (GJ fun i j=>.bl (decide (i<=j))):=GZ fun _ _ _ _ _ _ _ q=>le_int q
theorem Ld:OpR X (compareOp .Gt) (GJ fun i j=>.bl (decide (j<i))):=GZ fun _ _ _ _ _ _ _ q=>gt_int q
theorem KP:OpR X (compareOp .GtE) (GJ fun i j=>.bl (decide (j<=i))):=GZ fun _ _ _ _ _ _ _ q=>ge_int q
theorem JB:OpR X (compareOp .Is) (fun x y H Q=>y=.non/\Q (.bl (decide (x=.non))) H):=by
 intro pins s σ H x y v u Q I rx ry h
 obtain⟨rfl,q⟩:=h
 cases ry
 refine is_none_gen (rH I q ?_)
 cases x<;>first
  | (cases rx;rfl)
  | (obtain⟨t,rfl⟩:=rx;rfl)
theorem GH:OpR X (compareOp .IsNot) (fun x y H Q=>y=.non/\Q (.bl (!decide (x=.non))) H):=by
 intro pins s σ H x y v u Q I rx ry h
 obtain⟨rfl,q⟩:=h
 cases ry
 refine isnot_none_gen (rH I q ?_)
 cases x<;>first
  | (cases rx;rfl)
  | (obtain⟨t,rfl⟩:=rx;rfl)
theorem OpR.or{f:N8->N8->Sem N8}{r r':R2}(h:OpR X f r)(h':OpR X f r'):OpR X f (fun x y H Q=>r x y H Q\/r' x y H Q):=by
 intro pins s σ H x y v u Q I rx ry q
 rcases q with q | q
 ·exact h pins s σ H x y v u Q I rx ry q
 ·exact h' pins s σ H x y v u Q I rx ry q
theorem Av(b:OG){op:CmpOp}(h:op≠.In:=by decide)(h2:op≠.NotIn:=by decide):behindInMarks op b=false:=by
 have e1:(op==CmpOp.In)=false:=by cases op<;>first | rfl | exact OA rfl h
 have e2:(op==CmpOp.NotIn)=false:=by cases op<;>first | rfl | exact OA rfl h2
 cases b<;>simp[behindInMarks,e1,e2]
theorem pN{op:CmpOp}{r:R2}(ho:OpR X (compareOp op) r)(ha:PE X a ta)(hb:PE X b tb)(hm:behindInMarks op b=false):PE X (.Compare a [op] [b] pos) (LK r ta tb):=by
 intro pins s σ H Q I h
 exact wpAny_Compare1 (Jq ha hb I h fun v u s2 x y H2 I2 rx ry q=>ho pins s2 σ H2 x y v u Q I2 rx ry q) hm
def KI(t:TE):TT:=fun σ H Q=>t σ H fun x H'=>∃k,x=.bl k/\Q k H'
theorem kj{op:CmpOp}{r:R2}(ho:OpR X (compareOp op) r)(ha:PE X a ta)(hb:PE X b tb)(hm:behindInMarks op b=false):PT X (.Compare a [op] [b] pos) (KI (LK r ta tb)):=by
 intro pins s σ H Q I h
 refine wpAny_isTrue_Compare1 (sh (ha pins s σ H _ I h) fun v s1 ⟨x,H1,I1,r1,q1⟩=>sh (hb pins s1 σ H1 _ I1 q1) fun u s2 ⟨y,H2,I2,r2,q2⟩ =>
  sh (ho pins s2 σ H2 x y v u _ I2 r1 r2 q2) fun c s3 ⟨z,H3,I3,r3,k,e,q3⟩=>?_) hm
 subst e
 cases r3
 exact wpAny_truthy_bool ⟨H3,I3,q3⟩
def Jr(K:N_)(x:V)(H:Hp)(k:Bool):Prop:=
 match x with
 | .non=>k=false
 | .bl b=>k=b
 | .int i=>k=(i != 0)
 | .str y=>y.length<=sizeLine/\k=((y.length:Int) != 0)
 | .byt y=>y.size<=sizeLine/\k=((y.size:Int) != 0)
 | .ref p=>(∃xs,uJ K H p xs/\k=!xs.isEmpty)\/(∃xs,vg K H p xs/\k=!xs.isEmpty)\/∃kvs,H p=some (.dK kvs)/\k=!kvs.isEmpty
 | _=>False
theorem Cm{κ:Type}{kvs:List (κ×V)}{vs:List (κ×N8)}(r:KV kvs vs):(!vs.isEmpty)=!kvs.isEmpty:=by
 cases r<;>rfl
theorem y9{xs:List V}{its:List N8}(r:l4 xs its):(!its.toArray.isEmpty)=!xs.isEmpty:=by
 cases r<;>simp
theorem zb:(sizeLine:Nat)<2 ^ 63:=by rw[sizeLine_eq];decide
theorem Im:Mg X (fun x H Q=>∃k,Jr X.K x H k/\Q k H):=by
 intro pins s σ H x v Q I rx h
 obtain⟨k,e,q⟩:=h
 have hl:=zb
 have hs:sizeLine=16777216:=sizeLine_eq
 cases x with
 | non =>
  cases rx
  have e':k=false:=e
  subst e'
  exact truthy_none ⟨H,I,q⟩
 | bl b =>
  cases rx
  have e':k=b:=e
  subst e'
  exact wpAny_truthy_bool ⟨H,I,q⟩
 | int i =>
  obtain⟨t,rfl⟩:=rx
  have e':k=(i != 0):=e
  subst e'
  exact PySem.P.truthy_int ⟨H,I,q⟩
 | str y =>
  obtain⟨t,rfl⟩:=rx
  obtain⟨hy,e'⟩:y.length<=sizeLine/\k=((y.length:Int) != 0):=e
  subst e'
  exact PySem.P.truthy_str (by omega) ⟨H,I.tok _,q⟩
 | byt y =>
  obtain⟨t,rfl⟩:=rx
  obtain⟨hy,e'⟩:y.size<=sizeLine/\k=((y.size:Int) != 0):=e
  subst e'
  exact PySem.W.truthy_bytes (by omega) ⟨H,I.tok _,q⟩
 | ref p =>
  cases rx
  have e':(∃xs,uJ X.K H p xs/\k=!xs.isEmpty)\/(∃xs,vg X.K H p xs/\k=!xs.isEmpty)\/∃kvs,H p=some (.dK kvs)/\k=!kvs.isEmpty:=e
  rcases e' with ⟨xs,hx,e'⟩ | ⟨xs,hx,e'⟩ | ⟨kvs,hx,e'⟩
  ·subst e'
   obtain⟨its,r,pl,hz⟩:=I.list hx
   have hlen:=r.length
   exact wpAny_truthy_list pl.isList (by simp only[On];omega) ⟨H,I.tok _,by rw[y9 r];exact q⟩
  ·subst e'
   obtain⟨its,r,pl,hz⟩:=I.tuple hx
   have hlen:=r.length
   exact truthy_tuple pl (by simp only[On];omega) ⟨H,I.tok _,by rw[y9 r];exact q⟩
  ·subst e'
   obtain⟨hz,hS,vs,r,m⟩:kvs.length<=sizeLine/\(p==sysModules)=false/\∃vs,KV kvs vs/\s.heap.DictOf (yw X.prog X.w) p vs:=I.hok p _ hx
   have hlen:kvs.length=vs.length:=Paired.length r
   exact wpAny_truthy_dict hS m (by omega) ⟨H,I.tok _,by rw[Cm r];exact q⟩
 | _=>exact(show False from e).elim
theorem o_(ha:PE X a ta)(he:∀whole,isTrue a X.env whole=(do let v <- whole;standAt a.pos;holding [v] (truthy v))) :
  PT X a (fun σ H Q=>ta σ H fun x H'=>∃k,Jr X.K x H' k/\Q k H'):=by
 intro pins s σ H Q I h
 exact isTrue_plain (sh (ha pins s σ H _ I h) fun v s1 ⟨x,H1,I1,r1,q1⟩=>Im pins s1 σ H1 x v Q I1 r1 q1) (he _)
theorem Ci:OpR X (binaryOp .Add) (fun x y H Q=>∃i j,x=.str i/\y=.str j/\i.length+j.length<=sizeLine/\Q (.str (i++j)) H):=by
 intro pins s σ H x y v u Q I rx ry h
 obtain⟨i,j,rfl,rfl,hz,q⟩:=h
 obtain⟨t,rfl⟩:=rx
 obtain⟨t',rfl⟩:=ry
 exact add_str (fun t' tk=>⟨.str (i++j),H,I.tok _,⟨_,rfl⟩,q⟩) hz
theorem vals1{x:V}{us:List N8}(r:l4 [x] us):∃u,us=[u]/\RelV x u:=by
 cases r with
 | cons r1 r2=>cases r2;exact⟨_,rfl,r1⟩
theorem vals2{x y:V}{us:List N8}(r:l4 [x,y] us):∃u w',us=[u,w']/\RelV x u/\RelV y w':=by
 cases r with
 | cons r1 r2 =>
  cases r2 with
  | cons r3 r4=>cases r4;exact⟨_,_,rfl,r1,r3⟩
theorem nO(hc:X.calm=true):CallR X (.builtin "max") (fun xs H Q=>∃i j,xs=[.int i,.int j]/\Q (.int (if j > i then j else i)) H):=by
 intro pins s σ H xs us Q I r h
 obtain⟨i,j,rfl,q⟩:=h
 obtain⟨u,w',rfl,⟨t,rfl⟩,⟨t',rfl⟩⟩:=vals2 r
 refine max_two_ints (I.ok.hd hc) fun h' tk k=>⟨_,H,I.kept k,?_,q⟩
 by_cases hj:j > i
 ·rw[Of hj,Of hj];exact⟨_,rfl⟩
 ·rw[Ov hj,Ov hj];exact⟨_,rfl⟩
theorem AL:CallR X (.type "str") (fun xs H Q=>∃i,xs=[.int i]/\i.natAbs.log2<1920/\Q (.str (toString i)) H):=by
 intro pins s σ H xs us Q I r h
 obtain⟨i,rfl,hz,q⟩:=h
 obtain⟨u,rfl,t,rfl⟩:=vals1 r
 exact PySem.P.str_of_int hz ⟨.str _,H,I.tok _,⟨_,rfl⟩,q⟩
end
end L2
namespace L2
open PySem PySem.Spec PyProof.Rows
structure Ce (h:OC) (x dx C:N9) (mA:Str->N7 N8):Prop where
 obj:h.get? x=some (PySem.W.instObj C dx)
 ns:h.Ns1 dx mA
 ne:dx≠x
theorem D4{h:OC}{dx:N9}{mA:Str->N7 N8}(n:h.Ns1 dx mA):∃od,h.get? dx=some od/\∀name,PySem.W.lookIn name od=some (mA name):=by
 obtain⟨o,es,ep,ho,hd,hk,_,hm⟩:=n
 refine⟨o,ho,fun name=>?_⟩
 have e:=hm name
 unfold nsFind findBy at e
 rw[<- Array.find?_toList] at e
 unfold PySem.W.lookIn
 rw[hd]
 dsimp only
 split
 ·rename_i y q
  rw[q] at e
  exact congrArg some e
 ·rename_i q
  rw[q] at e
  have a:es.toList.any (·.refKey)=false:=by
   rw[List.any_eq_false]
   intro y hy
   obtain⟨z,t,hkey⟩:=hk y (Array.mem_toList_iff.mp hy)
   simp[DictEntry.refKey,hkey]
  have a':¬ es.toList.any (·.refKey)=true:=by rw[a];exact Oi
  rw[Ov a']
  exact congrArg some e
theorem Ce.look{h:OC}{x dx C:N9}{mA:Str->N7 N8}(I:Ce h x dx C mA):∃od,PySem.W.InstAt h x (PySem.W.instObj C dx) C (some od)/\∀name,PySem.W.lookIn name od=some (mA name):=
 let ⟨od,ho,hl⟩:=D4 I.ns
 ⟨od,⟨I.obj,rfl,rfl,ho⟩,hl⟩
section
variable{prog:Oh}{w:Ot}{A:OJ}{E:N8->Oa->Prop}{s:Oa}{K:N_}{x dx C f:N9}{mA:Str->N7 N8}{name:Str}{v:N8}
theorem pX{expr:Bool}{Q:N8->Oa->Prop}(X:K.In s.heap)(I:Ce s.heap x dx C mA)(hg:PySem.W.plainGet K C name=true)(hh:PySem.W.hasDictIn K C=true)
  (ha:PySem.W.findIn K (.ref C) name=some none) (hv:mA name=some v) (hv':PySem.W.handedIn v=true) (h:Q v {s with toks:=s.toks+1}) :
  wpAny (model prog w) A (getAttr (.ref x) name expr) Q E s:=by
 obtain⟨od,J,hl⟩:=I.look
 exact PySem.W.get_value X J (PySem.W.plainGet_of hg).1 (PySem.W.findObj_own hh ha rfl (by rw[hl,hv])) hv' h
theorem oy{pl:Sem Bool}{Q:N8×List N8->Oa->Prop}(X:K.In s.heap)(I:Ce s.heap x dx C mA)(hg:PySem.W.plainGet K C name=true)
  (hf:PySem.W.findIn K (.ref C) name=some (some (.ref f))) (ht:PySem.W.isFn K (.ref f)=true) (hv:mA name=none) (h:Q (.ref f,[.ref x]) s) :
  wpAny (model prog w) A (getMethod (.ref x) name pl) Q E s:=by
 obtain⟨od,J,hl⟩:=I.look
 exact PySem.W.method_fn X J (PySem.W.plainGet_of hg).1 (PySem.W.plainGet_of hg).2 hf (Pl.mp ht) (by show(PySem.W.lookIn name od).map (·.isSome)=some false;rw[hl,hv];rfl) h
theorem Hc{ns:List Str}{Q:Unit->Oa->Prop}(X:K.In s.heap)(I:Ce s.heap x dx C mA)
  (hs:PySem.W.findIn K (.ref C) "__setattr__" = some (some (.builtin "object.__setattr__"))) (hp:PySem.W.plainOver K C=true) (ht:PySem.W.takerIn K C name=some none) (hh:PySem.W.hasDictIn K C=true)
  (hw:PySem.Within mA ns) (hsz:ns.length<=sizeLine)
  (h:∀h',Ce h' x dx C (fun y=>if y=name then some v else mA y)->Heap.SameBut dx s.heap h'->Q () {s with heap:=h',toks:=s.toks+2}) :
  wpAny (model prog w) A (setAttr (.ref x) name v) Q E s:=by
 obtain⟨od,J,hl⟩:=I.look
 refine PySem.W.set_plain X J hs (PySem.W.osa_open (s:={s with toks:=s.toks+1}) (r:=none) X J hp ht fun b=>?_)
 obtain⟨cd,hc,hd'⟩:=PySem.W.any_some hh
 have hx:s.heap.get? x=some ⟨.ref C,some dx,.plain,#[]⟩:=I.obj
 refine Ob (Ou (Ob (Ob (wpAny_loadPart hx (Ob (PySem.W.Looks.here (s:={s with toks:=s.toks+1}) (PySem.W.looks_clsIn X hc) ?_))))))
 rw[hd']
 refine Ou (a:=some dx) (Ob (Ou (Ob ?_)))
 refine wpAny_nsSet1 (s:={s with toks:=s.toks+1}) I.ns fun h' hn2 hs2=>?_
 obtain⟨oD,esD,epD,hoD,hdD,hcD⟩:=hn2.count (PySem.Within.cons name v hw)
 refine Ob (wpAny_lookBehind hoD (by rw[hdD];exact pastItsLine_dict (OH hcD (by rw[O9];omega))) ?_)
 exact Ou (h _ ⟨(hs2.2 _ (Ne.symm I.ne)).trans I.obj,hn2,I.ne⟩ hs2)
theorem ER {R:Result->Oa->Prop} {vs:List N8} {kw:List (Str×N8)} (X:K.In s.heap) (hm:PySem.W.makesIn K C=true)
    (hi:PySem.W.findIn K (.ref C) "__init__" = some (some (.ref f))) (hf:PySem.W.typeIn K (.ref f)=some (.type "function"))
    (h:codeAny (model prog w) (A.under (.builtin "type.__call__" ⟨.ref C::vs,kw⟩)) (.call (.ref f) ⟨.ref (s.heap.objs.size+1)::vs,kw⟩) (PySem.W.InitBack (s.heap.objs.size+1) R)
      {s with heap:=(s.heap.push PySem.W.emptyDict).push (PySem.W.instObj C s.heap.objs.size)}) :
    codeAny (model prog w) A (.call (.ref C) ⟨vs,kw⟩) R s:=by
  obtain⟨hh,g,d,t,os⟩:=s
  exact PySem.W.make_core (PySem.W.makes_of X hm) (PySem.W.looks_findIn X hi) (fun self=>PySem.W.bind_fn X self hf) (.inl rfl) h
end
noncomputable def uD(f:Str)(v:V):List (Str×V)->List (Str×V)
 | []=>[(f,v)]
 | (g,x)::r=>if g=f then (g,v)::r else (g,x)::uD f v r
theorem yf(f g:Str)(v:V):∀fs:List (Str×V),(uD f v fs).lookup g=if g=f then some v else fs.lookup g
 | []=>by
  show List.lookup g [(f,v)]=_
  by_cases h:g=f
  ·have hb:(g==f)=true:=Pl.mpr h
   simp only[List.lookup,hb,Of h]
  ·have hb:(g==f)=false:=OP.mpr h
   simp only[List.lookup,hb,Ov h]
 | (k,x)::r=>by
  have ih:=yf f g v r
  rw[show uD f v ((k,x)::r)=(if k=f then (k,v)::r else (k,x)::uD f v r) from rfl]
  by_cases hk:k=f
  ·rw[Of hk]
   by_cases h:g=k
   ·have hb:(g==k)=true:=Pl.mpr h
    simp only[List.lookup,hb,Of (h.trans hk)]
   ·have hb:(g==k)=false:=OP.mpr h
    simp only[List.lookup,hb,Ov (fun e:g=f=>h (e.trans hk.symm))]
  ·rw[Ov hk]
   by_cases h:g=k
   ·have hb:(g==k)=true:=Pl.mpr h
    simp only[List.lookup,hb,Ov (fun e:g=f=>hk (h.symm.trans e))]
   ·have hb:(g==k)=false:=OP.mpr h
    simp only[List.lookup,hb]
    exact ih
theorem xO(f:Str)(v:V):∀fs:List (Str×V),f∈(uD f v fs).map (·.1)/\∀g,g∈fs.map (·.1)->g∈(uD f v fs).map (·.1)
 | []=>⟨by simp[uD],fun g h=>by simp at h⟩
 | (k,x)::r=>by
  obtain⟨i1,i2⟩:=xO f v r
  rw[show uD f v ((k,x)::r)=(if k=f then (k,v)::r else (k,x)::uD f v r) from rfl]
  by_cases hk:k=f
  ·rw[Of hk]
   subst hk
   exact⟨by simp,fun g h=>by simpa using h⟩
  ·rw[Ov hk]
   refine⟨?_,fun g h=>?_⟩
   ·rw[Pb]
    exact Oy _ i1
   ·rw[Pb] at h ⊢
    rcases Oj.mp h with e | e
    ·exact Oj.mpr (.inl e)
    ·exact Oy _ (i2 g e)
theorem yj(f:Str)(v:V):∀fs:List (Str×V),(uD f v fs).length<=fs.length+1
 | []=>by simp[uD]
 | (k,x)::r=>by
  have ih:=yj f v r
  rw[show uD f v ((k,x)::r)=(if k=f then (k,v)::r else (k,x)::uD f v r) from rfl]
  by_cases hk:k=f
  ·rw[Of hk,O9,O9];omega
  ·rw[Ov hk,O9,O9];omega
theorem wA.some_of{v:V}{o:N7 N8}(r:wA (some v) o):∃u,o=some u/\RelV v u:=by
 cases o with
 | none=>exact(show False from r).elim
 | some u=>exact⟨u,rfl,r⟩
theorem wA.none_of{o:N7 N8}(r:wA none o):o=none:=by
 cases o with
 | none=>rfl
 | some u=>exact(show False from r).elim
theorem DX{v:V}{u:N8}(r:RelV v u):PySem.W.handedIn u=true:=by
 cases v with
 | non=>cases (show u=Value.none from r);rfl
 | bl b=>cases (show u=Value.bool b from r);rfl
 | int i=>obtain⟨t,e⟩:=(show ∃t,u=Value.int i t from r);cases e;rfl
 | str x=>obtain⟨t,e⟩:=(show ∃t,u=Value.str x t from r);cases e;rfl
 | byt b=>obtain⟨t,e⟩:=(show ∃t,u=Value.bytes b t from r);cases e;rfl
 | flt b=>obtain⟨t,e⟩:=(show ∃t,u=Value.float b t from r);cases e;rfl
 | ref a=>cases (show u=Value.ref a from r);rfl
 | ty n=>cases (show u=Value.type n from r);rfl
section
variable{P:Oh}{w:Ot}{H H':Hp}{h h':OC}{a C dx:N9}{fs fs':List (Str×V)}
theorem Ap(hok:wF P w H h)(e:H a=some (.ins C dx fs)):∃mA,Ce h a dx C mA/\(∀f,wA (fs.lookup f) (mA f))/\PySem.Within mA (fs.map (·.1))/\fs.length<=1000/\H dx=some (.own a):=by
 obtain⟨d,z,ne,ob,mA,n,r,q⟩:=(show tK P w H h a (.ins C dx fs) from hok a _ e)
 exact⟨mA,⟨ob,n,ne⟩,r,q,z,d⟩
end
structure vI (K:N_) (C:N9):Prop where
 pg:PySem.W.plainGet K C Str.empty=true
 hd:PySem.W.hasDictIn K C=true
 po:PySem.W.plainOver K C=true
 sa:PySem.W.findIn K (.ref C) "__setattr__" = some (some (.builtin "object.__setattr__"))
theorem vI.get{K:N_}{C:N9}(c:vI K C)(f:Str):PySem.W.plainGet K C f=true:=c.pg
def rK(K:N_)(C:N9)(f:Str):Prop:=PySem.W.findIn K (.ref C) f=some none
theorem rK.taker{K:N_}{C:N9}{f:Str}(n:rK K C f):PySem.W.takerIn K C f=some none:=by
 unfold PySem.W.takerIn
 rw[show PySem.W.findIn K (.ref C) f=some none from n]
 rfl
structure s_ (K:N_) (C:N9) (f:Str) (v:V) (u:N8):Prop where
 at_:PySem.W.findIn K (.ref C) f=some (some u)
 rel:RelV v u
 get:PySem.W.specialIn K u "__get__" = some none
 cp:PySem.W.copiedNames.contains f=false
structure BQ (K:N_) (C:N9) (m:Str) (f:N9):Prop where
 at_:PySem.W.findIn K (.ref C) m=some (some (.ref f))
 fn:PySem.W.isFn K (.ref f)=true
 kp:PySem.W.keepIn K (.ref f)=true
section
variable{X:Cx}{pins:List (N9×Obj)}{σ:St}{H:Hp}{s:Oa}{a C dx:N9}{fs:List (Str×V)}{f:Str}{v:V}{A:OJ}{E:N8->Oa->Prop}
theorem Cp{b:Bool}{Q:N8->Oa->Prop}(I:Inv X pins σ H s)(e:H a=some (.ins C dx fs))(c:vI X.K C)(n:rK X.K C f)(l:fs.lookup f=some v)
  (h:∀u s',Inv X pins σ H s'->RelV v u->Q u s'):wpAny (model X.prog X.w) A (getAttr (.ref a) f b) Q E s:=by
 obtain⟨mA,O,r,_,_,_⟩:=Ap I.hok e
 obtain⟨u,hu,ru⟩:=wA.some_of (v:=v) (o:=mA f) (by rw[<- l];exact r f)
 exact pX I.kIn O (c.get f) c.hd n hu (DX ru) (h u _ (I.tok _) ru)
theorem wX{m:Str}{g:N9}{pl:Sem Bool}{Q:N8×List N8->Oa->Prop}(I:Inv X pins σ H s)(e:H a=some (.ins C dx fs))(c:vI X.K C)(k:BQ X.K C m g)(l:fs.lookup m=none)
  (h:Q (.ref g,[.ref a]) s):wpAny (model X.prog X.w) A (getMethod (.ref a) m pl) Q E s:=by
 obtain⟨mA,O,r,_,_,_⟩:=Ap I.hok e
 have hn:mA m=none:=wA.none_of (by rw[<- l];exact r m)
 exact oy I.kIn O (c.get m) k.at_ k.fn hn h
theorem Cu{y:V}{u:N8}{Q:Unit->Oa->Prop}(I:Inv X pins σ H s)(e:H a=some (.ins C dx fs))(c:vI X.K C)(n:rK X.K C f)(hl:fs.length<1000)(ry:RelV y u)
  (h:∀s',Inv X pins σ (upd H a (.ins C dx (uD f y fs))) s'->Q () s'):wpAny (model X.prog X.w) A (setAttr (.ref a) f u) Q E s:=by
 obtain⟨mA,O,r,wi,_,ho⟩:=Ap I.hok e
 have hz:(fs.map (·.1)).length<=sizeLine:=by rw[OK,sizeLine_eq];omega
 refine Hc I.kIn O c.sa c.po n.taker c.hd wi hz fun h' O' sb=>h _ ?_
 have hd:∃o,h'.get? dx=some o:=let ⟨o,_,_,e',_⟩:=O'.ns;⟨o,e'⟩
 refine I.write (x:=a) (e:=dx) (by rw[e];exact True.intro) (.inr ho) (fun b q hb z=>(sb.2 b hb).trans z) hd ?_
 refine⟨by rw[aq O.ne];exact ho,?_,O.ne,O'.obj,_,O'.ns,fun g=>?_,fun g hg=>?_⟩
 ·have:=yj f y fs;omega
 ·show wA ((uD f y fs).lookup g) (if g=f then some u else mA g)
  rw[yf]
  by_cases q:g=f
  ·rw[Of q,Of q];exact ry
  ·rw[Ov q,Ov q];exact r g
 ·by_cases q:g=f
  ·rw[q];exact(xO f y fs).1
  ·refine(xO f y fs).2 g (wi g fun z=>hg ?_)
   show(if g=f then some u else mA g)=none
   rw[Ov q];exact z
theorem Inv.made(I:Inv X pins σ H s):Inv X pins σ (upd (upd H s.heap.objs.size (.own (s.heap.objs.size+1))) (s.heap.objs.size+1) (.ins C s.heap.objs.size []))
  {s with heap:=(s.heap.push PySem.W.emptyDict).push (PySem.W.instObj C s.heap.objs.size)}:=by
 have e1:(s.heap.push PySem.W.emptyDict).get? s.heap.objs.size=some PySem.W.emptyDict:=Ox s.heap rfl
 have e2:((s.heap.push PySem.W.emptyDict).push (PySem.W.instObj C s.heap.objs.size)).get? (s.heap.objs.size+1)=some (PySem.W.instObj C s.heap.objs.size):=by
  have:=Ox (s.heap.push PySem.W.emptyDict) (o:=PySem.W.instObj C s.heap.objs.size) rfl
  rwa [Heap.size_push] at this
 have e3:(s.heap.push PySem.W.emptyDict).Ns s.heap.objs.size (fun _=>none):=⟨PySem.W.emptyDict,#[],_,e1,rfl,(fun e he=>OA he (by simp)),fun _=>rfl⟩
 have I1:=I.laid (a:=s.heap.objs.size) (o:=.own (s.heap.objs.size+1)) (h':=s.heap.push PySem.W.emptyDict) (t':=s.toks) (fun b u q=>Og _ q) (Oo _) ⟨_,e1⟩
 refine I1.laid (a:=s.heap.objs.size+1) (o:=.ins C s.heap.objs.size []) (t':=s.toks) (fun b u q=>Og _ q) (Nat.le_of_eq (Heap.size_push _ _)) ?_
 have ne:s.heap.objs.size≠s.heap.objs.size+1:=OL (Po _)
 refine⟨by rw[aq ne,av],Pg _,ne,e2,fun _=>none,(Heap.Ns1.of_empty e3).at fun o q=>Og _ q,fun _=>True.intro,fun y hy=>OA rfl hy⟩
theorem GG{prog:Oh}{w:Ot}{env:Env}{e:OG}{f:Str}{pos:Pos}{s:Oa}{Q:N8->Oa->Prop}(hb:attributeBase e f env (eval e env)=eval e env)
  (h:wpAny (model prog w) A (eval e env) (fun o s₁=>wpAny (model prog w) A (getAttr o f true) Q E s₁) E s):wpAny (model prog w) A (eval (.Attribute e f pos) env) Q E s:=
 Attribute_any_ h (by rw[arm_eval_Attribute,hb])
end
def MB(K:N_)(ta:TE)(f:Str):TE:=fun σ H Q=>ta σ H fun x H1=>∃a C dx fs v,x=.ref a/\H1 a=some (.ins C dx fs)/\vI K C/\rK K C f/\fs.lookup f=some v/\Q v H1
def MG(K:N_)(ta tv:TE)(f:Str):TS:=fun D σ H=>tv σ H fun y H1=>ta σ H1 fun x H2=>∃a C dx fs,x=.ref a/\H2 a=some (.ins C dx fs)/\vI K C/\rK K C f/\fs.length<1000 /\
 D.nx σ (upd H2 a (.ins C dx (uD f y fs)))
section
variable{X:Cx}{o e value:OG}{f:Str}{pos pos' tpos:Pos}{ta tv:TE}
theorem lH(he:PE X e ta)(hb:attributeBase e f X.env (eval e X.env)=eval e X.env):PE X (.Attribute e f pos) (MB X.K ta f):=by
 intro pins s σ H Q I h
 refine GG hb (sh (he pins s σ H _ I h) fun u s1 ⟨x,H1,I1,rx,a,C,dx,fs,v,ex,ea,c,n,l,q⟩=>?_)
 subst ex
 obtain rfl:u=Value.ref a:=rx
 exact Cp I1 ea c n l fun u' s2 I2 ru=>⟨v,H1,I2,ru,q⟩
theorem ox(ha:PE X o ta)(hv:PE X value tv)(hs:swapsWith value (some (.Attribute o f pos')) pos.line X.env=pure false):PS X (.Assign [.Attribute o f pos'] value pos) (MG X.K ta tv f):=by
 intro pins s σ H D I h
 refine plainObj_wpAny_Assign_Attribute (sh (hv pins s σ H _ I h) fun u s1 ⟨y,H1,I1,ry,q⟩=>sh (ha pins s1 σ H1 _ I1 q) fun ov s2 ⟨x,H2,I2,rx,a,C,dx,fs,ex,ea,c,n,l,q2⟩=>?_) hs
 subst ex
 obtain rfl:ov=Value.ref a:=rx
 exact Cu I2 ea c n l ry fun s3 I3=>⟨σ,_,I3,q2⟩
theorem HA {pl:Sem Bool} {m:Str} {apos:Pos} {args:List OG} {pins:List (N9×Obj)} {s:Oa} {σ:St} {H:Hp} {Q:N8->Oa->Prop} {te:TE} (he:PE X e te) (I:Inv X pins σ H s)
    (h:te σ H fun x H1=>∃a C dx fs g,x=.ref a/\H1 a=some (.ins C dx fs)/\vI X.K C/\BQ X.K C m g/\fs.lookup m=none /\
      ∀s1,Inv X pins σ H1 s1->wpAny (model X.prog X.w) X.A (callWith pos (.ref g) [.ref a] (backTo pos (starEach args X.env)) (backToKw pos (keywordEach [] X.env))) Q X.xe s1)
    (ht:eval (.Call (.Attribute e m apos) args [] pos) X.env=(do
      let ov <- eval e X.env
      standAt apos.atName
      let (f,first) <- holding [ov] (getMethod ov m pl)
      callWith pos f first (backTo pos (starEach args X.env)) (backToKw pos (keywordEach [] X.env)))) :
    wpAny (model X.prog X.w) X.A (eval (.Call (.Attribute e m apos) args [] pos) X.env) Q X.xe s:=by
  refine PySem.W.methodCall_KW (pl:=pl) (sh (he pins s σ H _ I h) fun u s1 ⟨x,H1,I1,rx,a,C,dx,fs,g,ex,ea,c,k,l,q⟩=>?_) ht
  subst ex
  obtain rfl:u=Value.ref a:=rx
  exact wX I1 ea c k l (q s1 I1)
end
section
variable{X:Cx}{pins:List (N9×Obj)}{σ:St}{H:Hp}{s:Oa}{A:OJ}{E:N8->Oa->Prop}{Q:N8->Oa->Prop}{c:N8}{b:Bool}
end
end L2
namespace L2
open PySem PySem.Spec PyProof.Rows
structure rO (k:Nat) (A:OJ):Prop where
 hd:A.handled=none
 dp:A.depth+3*k+5<recursionLimit
 un:A.units+16*k+200<cLine
 gd:A.guards=some []
theorem rO.mono{j k:Nat}{A:OJ}(r:rO k A)(h:j<=k):rO j A:=⟨r.hd,by have:=r.dp;omega,by have:=r.un;omega,r.gd⟩
theorem rO.deeper{k:Nat}{A:OJ}(r:rO (k+1) A)(env:Env):rO k (A.deeper env):=
 ⟨r.hd,by have:=r.dp;show A.depth+1+3*k+5<_;omega,by have:=r.un;show A.units+3+16*k+200<_;omega,r.gd⟩
theorem rO.in1{k:Nat}{A:OJ}(r:rO (k+1) A):rO k A.in1:=
 ⟨r.hd,by have:=r.dp;show A.depth+3*k+5<_;omega,by have:=r.un;show A.units+1+16*k+200<_;omega,r.gd⟩
theorem CF{A:OJ}{C:N9}{us:List N8}{kw:List (Str×N8)}:(A.under (.builtin "type.__call__" ⟨.ref C::us,kw⟩)).depth=A.depth+1:=by
 first | rfl | simp[Around.under,Code.weight,Code.isCreation,Code.isGuard,Code.isCaller,Code.frames,Code.isFrame,guardIds]
theorem B6{A:OJ}{C:N9}{us:List N8}{kw:List (Str×N8)}:(A.under (.builtin "type.__call__" ⟨.ref C::us,kw⟩)).units=A.units+1:=by
 first | rfl | simp[Around.under,Code.cUnits,Code.frames,Code.isFrame]
theorem rO.make{k:Nat}{A:OJ}(r:rO (k+1) A)(C:N9)(us:List N8)(kw:List (Str×N8)):rO k (A.under (.builtin "type.__call__" ⟨.ref C::us,kw⟩)):=
 ⟨r.hd,by have:=r.dp;rw[CF];omega,by have:=r.un;rw[B6];omega,by show pushGuards (Code.guards (.builtin "type.__call__" ⟨.ref C::us,kw⟩)) A.guards=_;rw[r.gd];first | rfl | simp[Code.guards,Code.isGuard,guardIds,pushGuards]⟩
theorem rO.depth{k:Nat}{A:OJ}(r:rO k A):A.depth<recursionLimit:=by have:=r.dp;omega
theorem rO.units{k:Nat}{A:OJ}(r:rO k A):A.units+64<cLine:=by have:=r.un;omega
def K3:TA:=fun _ H Q=>Q [] H
def Lp(ta:TE)(tr:TA):TA:=fun σ H Q=>ta σ H fun x H1=>tr σ H1 fun xs H2=>Q (x::xs) H2
section
variable{X:Cx}{e:OG}{es:List OG}{te:TE}{t:TA}{pos:Pos}
theorem AD:PA X [] K3:=fun _ _ _ _ H Q I h=>Calls.spliced_nil ⟨[],H,I,.nil,h⟩
theorem gb(ha:PE X e te)(hr:PA X es t)(hs:starEach (e::es) X.env=(false,eval e X.env)::starEach es X.env:=by rfl):PA X (e::es) (Lp te t):=by
 intro pos pins s σ H Q I h
 rw[hs]
 show wpAny _ _ (spliced ((false,eval e X.env)::backTo pos (starEach es X.env))) _ _ s
 refine Calls.spliced_cons (sh (ha pins s σ H _ I h) fun u s1 ⟨x,H1,I1,r1,q1⟩=>?_)
 exact sh (hr pos pins s1 σ H1 _ I1 q1) fun us s2 ⟨xs,H2,I2,r2,q2⟩=>⟨x::xs,H2,I2,.cons r1 r2,q2⟩
def MF(t:TA):TE:=fun σ H Q=>t σ H fun xs H1=>xs.length<=sizeLine/\∀p,H1 p=none->Q (.ref p) (upd H1 p (.tup xs))
def MY(t:TA):TE:=fun σ H Q=>t σ H fun xs H1=>xs.length<=sizeLine/\∀p,H1 p=none->Q (.ref p) (upd H1 p (.lst xs))
theorem mv{x1}(h:PA X es t):PE X (.Tuple es x1 pos) (MF t):=by
 intro pins s σ H Q I hq
 refine wpAny_Tuple_spliced (sh (h pos pins s σ H _ I hq) fun us s1 ⟨xs,H1,I1,r,z,q⟩=>⟨by rw[<- r.length];exact z,?_⟩)
 have hf:H1 s1.heap.objs.size=none:=I1.hok.fresh (Oo _)
 refine⟨.ref s1.heap.objs.size,upd H1 s1.heap.objs.size (.tup xs),I1.laid (t':=s1.toks) (fun b u e=>Og _ e) (Oo _) ?_,rfl,q _ hf⟩
 exact⟨z,us,r,⟨_,Ox _ rfl,rfl,⟨_,rfl⟩,rfl⟩⟩
theorem lZ(h:PA X es t):PE X (.List es pos) (MY t):=by
 intro pins s σ H Q I hq
 refine wpAny_List_spliced (sh (h pos pins s σ H _ I hq) fun us s1 ⟨xs,H1,I1,r,z,q⟩=>⟨by rw[<- r.length];exact z,?_⟩)
 have hf:H1 s1.heap.objs.size=none:=I1.hok.fresh (Oo _)
 refine⟨.ref s1.heap.objs.size,upd H1 s1.heap.objs.size (.lst xs),I1.laid (t':=s1.toks) (fun b u e=>Og _ e) (Oo _) ?_,rfl,q _ hf⟩
 exact⟨z,us,0,r,Ox _ rfl⟩
end
abbrev Sp:=List V->Hp->VK->XK->Prop
abbrev AK:=List Env->Hp->Oa->XK->N8->Oa->Prop
structure xW (P:Oh) (w:Ot) (K:N_) (mg:Str->N7 N8) (base:OC) (A:OJ) (outer:List Env) (s:Oa) (H:Hp):Prop where
 frames:A.frames=some outer
 mod:Mod K mg base
 bs:∀b o,base.get? b=some o->s.heap.get? b=some o/\H b=none
 bsz:base.objs.size<=s.heap.objs.size
 funs:s.heap.FunFrames base outer
 frf:∀b∈vf outer,H b=none
 hok:wF P w H s.heap
 bare:AllBare s.gens
def CE(outer:List Env)(P:Oh)(w:Ot)(H:Hp)(s:Oa)(Q:VK)(u:N8)(s':Oa):Prop:=
 ∃v H',s'.os=s.os/\AllBare s'.gens/\Un (vf outer) [] H H' s.heap s'.heap/\wF P w H' s'.heap/\RelV v u/\Q v H'
def CR(CX:AK)(outer:List Env)(P:Oh)(w:Ot)(H:Hp)(s:Oa)(Q:VK)(E:XK)(r:Result)(s':Oa):Prop:=
 match r with
 | .ok (.ret u)=>CE outer P w H s Q u s'
 | .ok _=>False
 | .error e=>CX outer H s E e s'
structure k6 (P:Oh) (w:Ot) (K:N_) (mg:Str->N7 N8) (base:OC) (CX:AK) (k:Nat) (f:N9) (fd:OV) (ps:List Str) (sp:Sp):Prop where
 len:∀vs H Q E,sp vs H Q E->vs.length=ps.length
 run:∀(A:OJ) (outer:List Env) (s:Oa) (H:Hp) (args:Args) (us:List N8) (vs:List V) (Q:VK) (E:XK),rO k A->xW P w K mg base A outer s H->BindsTo s fd args (ps.zip us)->l4 vs us->sp vs H Q E ->
  codeAny (model P w) A (.call (.ref f) args) (CR CX outer P w H s Q E) s
theorem k6.mono{P:Oh}{w:Ot}{K:N_}{mg:Str->N7 N8}{base:OC}{CX:AK}{j k:Nat}{f:N9}{fd:OV}{ps:List Str}{sp:Sp}(F:k6 P w K mg base CX j f fd ps sp)(h:j<=k) :
  k6 P w K mg base CX k f fd ps sp:=⟨F.len,fun A outer s H args us vs Q E hr=>F.run A outer s H args us vs Q E (hr.mono h)⟩
theorem k6.imp{P:Oh}{w:Ot}{K:N_}{mg:Str->N7 N8}{base:OC}{CX:AK}{k:Nat}{f:N9}{fd:OV}{ps:List Str}{sp sp':Sp}(F:k6 P w K mg base CX k f fd ps sp)
  (h:∀vs H Q E,sp' vs H Q E->sp vs H Q E):k6 P w K mg base CX k f fd ps sp':=
 ⟨fun vs H Q E q=>F.len vs H Q E (h _ _ _ _ q),fun A outer s H args us vs Q E hr he hb hv hs=>F.run A outer s H args us vs Q E hr he hb hv (h _ _ _ _ hs)⟩
theorem xW.make{P:Oh}{w:Ot}{K:N_}{mg:Str->N7 N8}{base:OC}{A:OJ}{outer:List Env}{s:Oa}{H:Hp}(e:xW P w K mg base A outer s H)(C:N9)(us:List N8)(kw:List (Str×N8)) :
  xW P w K mg base (A.under (.builtin "type.__call__" ⟨.ref C::us,kw⟩)) outer s H:=⟨by first | exact e.frames | (simpa [Around.under,Code.envs,Code.isFrame,pushEnvs] using e.frames),e.mod,e.bs,e.bsz,e.funs,e.frf,e.hok,e.bare⟩
theorem xW.in1{P:Oh}{w:Ot}{K:N_}{mg:Str->N7 N8}{base:OC}{A:OJ}{outer:List Env}{s:Oa}{H:Hp}(e:xW P w K mg base A outer s H) :
  xW P w K mg base A.in1 outer s H:=⟨e.frames,e.mod,e.bs,e.bsz,e.funs,e.frf,e.hok,e.bare⟩
section
variable{X:Cx}{pins:List (N9×Obj)}{σ:St}{H:Hp}{s s':Oa}
theorem Inv.env0(I:Inv X pins σ H s):xW X.prog X.w X.K X.mg X.base X.A X.stack s H:=
 ⟨I.ok.frames,I.ok.mod,I.bs,OH I.ok.bsz I.sz,I.stack,I.stkFree,I.hok,I.bare⟩
theorem Inv.after{Q:VK}{u:N8}(I:Inv X pins σ H s)(h:CE X.stack X.prog X.w H s Q u s'):EP X pins σ Q u s':=by
 obtain⟨v,H',os,bare,un,hok,r,q⟩:=h
 obtain⟨hh,g,d,t,os'⟩:=s'
 obtain rfl:os'=s.os:=os
 exact⟨v,H',I.call (h':=hh) (g':=g) (d':=d) (t':=t) (ch:=[]) un hok bare (fun b z=>OA z (by simp)),r,q⟩
end
def H8(sp:Sp)(dvs:List V)(E:XK)(t:TA):TE:=fun σ H Q=>t σ H fun vs H1=>sp (vs++dvs) H1 Q E
def EE(C:N9)(m:Str)(sp:Sp)(dvs:List V)(E:XK)(ta:TE)(t:TA):TE:=fun σ H Q=>ta σ H fun x H1=>∃a dx fs,x=.ref a/\H1 a=some (.ins C dx fs)/\fs.lookup m=none /\
 t σ H1 fun vs H2=>sp (x::(vs++dvs)) H2 Q E
def HB(C:N9)(sp:Sp)(dvs:List V)(E:XK)(t:TA):TE:=fun σ H Q=>t σ H fun vs H1=>∀x dx,H1 x=none->H1 dx=none->dx≠x ->
 sp (.ref x::(vs++dvs)) (upd (upd H1 dx (.own x)) x (.ins C dx [])) (fun v H2=>v=.non/\Q (.ref x) H2) E
def Binds(K:N_)(fd:OV)(ps:List Str)(ds:List N8):Prop:=
 ∀(s:Oa) (us:List N8),K.In s.heap->(us++ds).length=ps.length->BindsTo s fd ⟨us,[]⟩ (ps.zip (us++ds))
theorem Binds.all{K:N_}{fd:OV}{ps:List Str}(h:∀us:List N8,us.length=ps.length->bindArgs fd ⟨us,[]⟩=pure (ps.zip us)):Binds K fd ps []:=fun s us _ hl=>by
 rw[OQ] at hl ⊢
 exact .of_eq (h us hl)
def vT(CX:AK)(X:Cx)(E:XK):Prop:=∀(pins:List (N9×Obj)) (σ:St) (H:Hp) (s:Oa) (e:N8) (s':Oa),Inv X pins σ H s->CX X.stack H s E e s'->X.xe e s'
section
variable{X:Cx}{CX:AK}{k:Nat}{f C:N9}{fd:OV}{ps:List Str}{sp:Sp}{dvs:List V}{ds:List N8}{E:XK}{x m:Str}{p pos apos:Pos}{e o:OG}{es:List OG}{ta:TE}{t:TA}
theorem yN{pins:List (N9×Obj)}{σ:St}{H:Hp}{s:Oa}{Q:VK}{us:List N8}{vs:List V}(F:k6 X.prog X.w X.K X.mg X.base CX k f fd ps sp)(hr:rO k X.A)(hb:Binds X.K fd ps ds)(hd:l4 dvs ds)(hx:vT CX X E)
  (I:Inv X pins σ H s) (r:l4 vs us) (h:sp (vs++dvs) H Q E):wpAny (model X.prog X.w) X.A (call (.ref f) us) (EP X pins σ Q) X.xe s:=by
 have r2:l4 (vs++dvs) (us++ds):=r.append hd
 have hl:(us++ds).length=ps.length:=by rw[<- r2.length];exact F.len _ _ _ _ h
 refine wpAny_call (codeAny_mono (F.run X.A X.stack s H ⟨us,[]⟩ (us++ds) (vs++dvs) Q E hr I.env0 (hb s us I.kIn hl) r2 h) fun r s' hq=>?_)
 cases r with
 | error e=>exact hx pins σ H s e s' I hq
 | ok fl =>
  cases fl with
  | ret u=>exact I.after hq
  | next=>exact False.elim hq
  | brk=>exact False.elim hq
  | cont=>exact False.elim hq
theorem jL(F:k6 X.prog X.w X.K X.mg X.base CX k f fd ps sp)(hr:rO k X.A)(hg:Gl X x)(hm:X.mg x=some (.ref f))(hk:PySem.W.keepIn X.K (.ref f)=true)(hb:Binds X.K fd ps ds)(hd:l4 dvs ds)(hx:vT CX X E)
  (ha:PA X (e::es) t) (hdb:(x==("__debug__" : Str))=false:=by decide) (he:starEach (e::es) X.env=(false,eval e X.env)::starEach es X.env:=by rfl) (hpl:(backTo pos (starEach es X.env)).any (·.1)=false:=by rfl) :
  PE X (.Call (.Name x p) (e::es) [] pos) (H8 sp dvs E t):=by
 intro pins s σ H Q I h
 refine Pc (fu I hg hm ?_ hdb)
 refine PySem.W.callWith_K (h₀:=X.base) I.ok.mod.kin hk (sh (ha pos pins s σ H _ I h) fun us s1 ⟨vs,H1,I1,r,q⟩=>⟨I1.kIn,?_⟩) he hpl
 exact yN F hr hb hd hx I1 r q
theorem mO {pl:Sem Bool} (he:PE X o ta) (c:vI X.K C) (hm:BQ X.K C m f) (F:k6 X.prog X.w X.K X.mg X.base CX k f fd ps sp) (hr:rO k X.A) (hb:Binds X.K fd ps ds) (hd:l4 dvs ds) (hx:vT CX X E) (ha:PA X (e::es) t)
    (hst:starEach (e::es) X.env=(false,eval e X.env)::starEach es X.env:=by rfl) (hpl:(backTo pos (starEach es X.env)).any (·.1)=false:=by rfl)
    (ht:eval (.Call (.Attribute o m apos) (e::es) [] pos) X.env=(do
      let ov <- eval o X.env
      standAt apos.atName
      let (f,first) <- holding [ov] (getMethod ov m pl)
      callWith pos f first (backTo pos (starEach (e::es) X.env)) (backToKw pos (keywordEach [] X.env))):=by rfl) :
    PE X (.Call (.Attribute o m apos) (e::es) [] pos) (EE C m sp dvs E ta t):=by
  intro pins s σ H Q I h
  refine PySem.W.methodCall_KW (pl:=pl) (sh (he pins s σ H _ I h) fun u s1 ⟨x,H1,I1,rx,a,dx,fs,ex,ea,l,q⟩=>?_) ht
  subst ex
  obtain rfl:u=Value.ref a:=rx
  refine wX I1 ea c hm l ?_
  refine PySem.W.callWith_K (first:=[.ref a]) (h₀:=X.base) I.ok.mod.kin hm.kp (sh (ha pos pins s1 σ H1 _ I1 q) fun us s2 ⟨vs,H2,I2,r,q2⟩=>⟨I2.kIn,?_⟩) hst hpl
  exact yN (us:=.ref a::us) (vs:=.ref a::vs) F hr hb hd hx I2 (.cons rfl r) q2
theorem k_ {pl:Sem Bool} (he:PE X o ta) (c:vI X.K C) (hm:BQ X.K C m f) (F:k6 X.prog X.w X.K X.mg X.base CX k f fd ps sp) (hr:rO k X.A) (hb:Binds X.K fd ps ds) (hd:l4 dvs ds) (hx:vT CX X E)
    (ht:eval (.Call (.Attribute o m apos) [] [] pos) X.env=(do
      let ov <- eval o X.env
      standAt apos.atName
      let (f,first) <- holding [ov] (getMethod ov m pl)
      callWith pos f first (backTo pos (starEach [] X.env)) (backToKw pos (keywordEach [] X.env))):=by rfl) :
    PE X (.Call (.Attribute o m apos) [] [] pos) (EE C m sp dvs E ta K3):=by
  intro pins s σ H Q I h
  refine PySem.W.methodCall_KW (pl:=pl) (sh (he pins s σ H _ I h) fun u s1 ⟨x,H1,I1,rx,a,dx,fs,ex,ea,l,q⟩=>?_) ht
  subst ex
  obtain rfl:u=Value.ref a:=rx
  refine wX I1 ea c hm l ?_
  exact PySem.W.callWith_K0 (first:=[.ref a]) I1.kIn hm.kp (yN (us:=[.ref a]) (vs:=[.ref a]) F hr hb hd hx I1 (.cons rfl .nil) q)
structure Mk (K:N_) (C f:N9):Prop where
 makes:PySem.W.makesIn K C=true
 init:PySem.W.findIn K (.ref C) "__init__" = some (some (.ref f))
 fn:PySem.W.isFn K (.ref f)=true
 kp:PySem.W.keepIn K (.ref C)=true
theorem Fd{pins:List (N9×Obj)}{σ:St}{H:Hp}{s:Oa}{Q:VK}{us:List N8}{vs:List V}(M:Mk X.K C f)(F:k6 X.prog X.w X.K X.mg X.base CX k f fd ps sp)(hr:rO (k+1) X.A)(hb:Binds X.K fd ps ds)(hd:l4 dvs ds)
  (hx:vT CX X E) (I:Inv X pins σ H s) (r:l4 vs us)
  (h:∀x dx,H x=none->H dx=none->dx≠x->sp (.ref x::(vs++dvs)) (upd (upd H dx (.own x)) x (.ins C dx [])) (fun v H2=>v=.non/\Q (.ref x) H2) E) :
  wpAny (model X.prog X.w) X.A (call (.ref C) us) (EP X pins σ Q) X.xe s:=by
 have hq:=h (s.heap.objs.size+1) s.heap.objs.size (I.hok.fresh (Nat.le_succ _)) (I.hok.fresh (Oo _)) (OL (Po _))
 have I2:=Inv.made (C:=C) I
 have r2:l4 (V.ref (s.heap.objs.size+1)::(vs++dvs)) (Value.ref (s.heap.objs.size+1)::(us++ds)):=.cons rfl (r.append hd)
 have hl:(Value.ref (s.heap.objs.size+1)::us++ds).length=ps.length:=by
  have e:=r2.length
  rw[F.len _ _ _ _ hq] at e
  exact e.symm
 refine wpAny_call (ER (f:=f) I.kIn M.makes M.init (Pl.mp M.fn) (codeAny_mono (F.run _ X.stack _ _ ⟨Value.ref (s.heap.objs.size+1)::us,[]⟩ (Value.ref (s.heap.objs.size+1)::(us++ds)) _ _ E (hr.make C us [])
  (I2.env0.make C us []) (hb _ (Value.ref (s.heap.objs.size+1)::us) I2.kIn hl) r2 hq) fun r s' hq'=>?_))
 cases r with
 | error e=>exact hx pins σ _ _ e s' I2 hq'
 | ok fl =>
  cases fl with
  | ret u =>
   obtain⟨v,H',I3,rv,ev,q3⟩:=I2.after hq'
   subst ev
   exact⟨rv,⟨V.ref (s.heap.objs.size+1),H',I3,rfl,q3⟩⟩
  | next=>exact False.elim hq'
  | brk=>exact False.elim hq'
  | cont=>exact False.elim hq'
theorem mX(M:Mk X.K C f)(F:k6 X.prog X.w X.K X.mg X.base CX k f fd ps sp)(hr:rO (k+1) X.A)(hg:Gl X x)(hm:X.mg x=some (.ref C))(hb:Binds X.K fd ps ds)(hd:l4 dvs ds)(hx:vT CX X E)
  (ha:PA X (e::es) t) (hdb:(x==("__debug__" : Str))=false:=by decide) (he:starEach (e::es) X.env=(false,eval e X.env)::starEach es X.env:=by rfl) (hpl:(backTo pos (starEach es X.env)).any (·.1)=false:=by rfl) :
  PE X (.Call (.Name x p) (e::es) [] pos) (HB C sp dvs E t):=by
 intro pins s σ H Q I h
 refine Pc (fu I hg hm ?_ hdb)
 refine PySem.W.callWith_K (h₀:=X.base) I.ok.mod.kin M.kp (sh (ha pos pins s σ H _ I h) fun us s1 ⟨vs,H1,I1,r,q⟩=>⟨I1.kIn,?_⟩) he hpl
 exact Fd M F hr hb hd hx I1 r q
end
section
variable{X:Cx}{CX:AK}{k:Nat}{f C:N9}{fd:OV}{ps ks:List Str}{sp:Sp}{E:XK}{x m:Str}{p pos apos kpos:Pos}{e o:OG}{es:List OG}{kws:List Keyword}{te ta:TE}{t tk:TA}{nm:N7 Str}
variable{g:List N8->List N8->List N8}{gV:List V->List V->List V}
end
structure i4 (N P:List Str) (sc:Scope):Prop where
 kind:sc.kind=.function
 co:sc.isCoroutine=false
 gen:sc.isGenerator=false
 nd:N.Nodup
 pre:N.take P.length=P
 par:∀x∈P,sc.names.lookup x=some .local\/sc.names.lookup x=some .cell
 nofree:∀y∈sc.names,y.2≠.free
theorem sP{N P:List Str}{sc:Scope}(h1:N.Nodup:=by decide +kernel)(h2:∀x∈P,sc.names.lookup x=some .local\/sc.names.lookup x=some .cell:=by decide +kernel)(h3:∀y∈sc.names,y.2≠.free:=by decide +kernel)(k:sc.kind=.function:=by rfl)(c:sc.isCoroutine=false:=by rfl)(g:sc.isGenerator=false:=by rfl)(p:N.take P.length=P:=by rfl):i4 N P sc:=⟨k,c,g,h1,p,h2,h3⟩
theorem Aj{kindOf:Str->N7 NameKind}{x:Str}:∀{binds:List (Str×N8)} {m:Str->N7 N8},(∀v,(x,v)∉binds)->bindL kindOf binds m x=m x
 | [],_,_=>rfl
 | (n,v)::r,m,h=>by
  unfold bindL
  rw[Aj fun w hw=>h w (Oy _ hw)]
  split
  ·have:x≠n:=by rintro rfl;exact h v ON
   simp[this]
  ·rfl
theorem Ak{kindOf:Str->N7 NameKind}{x:Str}:∀{binds:List (Str×N8)} {m:Str->N7 N8},(∀v,(x,v)∉binds)->bindC kindOf binds m x=m x
 | [],_,_=>rfl
 | (n,v)::r,m,h=>by
  unfold bindC
  rw[Ak fun w hw=>h w (Oy _ hw)]
  split
  ·rfl
  ·have:x≠n:=by rintro rfl;exact h v ON
   simp[this]
theorem zX{kindOf:Str->N7 NameKind}{x:Str}{v:N8}:∀{P:List Str} {vs:List N8} {i:Nat} {m:Str->N7 N8},P.Nodup->P[i]?=some x->vs[i]?=some v->kindOf x=some .local ->
  bindL kindOf (P.zip vs) m x=some v
 | [],_,_,_,_,h,_,_=>by simp at h
 | _::_,[],_,_,_,_,h,_=>by simp at h
 | p::P,w::vs,0,m,nd,h1,h2,hk=>by
  simp at h1 h2;subst h1;subst h2
  show bindL kindOf ((p,w)::P.zip vs) m p=_
  unfold bindL
  rw[Aj fun v hv=>(List.nodup_cons.mp nd).1 (List.of_mem_zip hv).1,Of hk]
  simp
 | p::P,w::vs,i+1,m,nd,h1,h2,hk=>by
  show bindL kindOf ((p,w)::P.zip vs) m x=_
  unfold bindL
  exact zX (i:=i) (List.nodup_cons.mp nd).2 (by simpa using h1) (by simpa using h2) hk
theorem Ae{kindOf:Str->N7 NameKind}{x:Str}{v:N8}:∀{P:List Str} {vs:List N8} {i:Nat} {m:Str->N7 N8},P.Nodup->P[i]?=some x->vs[i]?=some v->kindOf x≠some .local ->
  bindC kindOf (P.zip vs) m x=some v
 | [],_,_,_,_,h,_,_=>by simp at h
 | _::_,[],_,_,_,_,h,_=>by simp at h
 | p::P,w::vs,0,m,nd,h1,h2,hk=>by
  simp at h1 h2;subst h1;subst h2
  show bindC kindOf ((p,w)::P.zip vs) m p=_
  unfold bindC
  rw[Ak fun v hv=>(List.nodup_cons.mp nd).1 (List.of_mem_zip hv).1,Ov hk]
  simp
 | p::P,w::vs,i+1,m,nd,h1,h2,hk=>by
  show bindC kindOf ((p,w)::P.zip vs) m x=_
  unfold bindC
  exact Ae (i:=i) (List.nodup_cons.mp nd).2 (by simpa using h1) (by simpa using h2) hk
def start(N:List Str)(vs:List V):St:=vs.map some++List.replicate (N.length - vs.length) none
noncomputable def uV(CX:AK)(P:Oh)(w:Ot)(K:N_)(mg:Str->N7 N8)(base:OC)(N:List Str)(qual:Str)(scope:Scope)(f:N9)(cd:N8)(A:OJ)(outer:List Env)(s:Oa)(H:Hp)(E:XK):Cx where
 prog:=P
 w:=w
 K:=K
 mg:=mg
 base:=base
 A:=A.deeper (envOfC qual scope s.heap.objs.size f cd)
 N:=N
 s₀:=s
 H₀:=H
 env:=envOfC qual scope s.heap.objs.size f cd
 outer:=outer
 stack:=envOfC qual scope s.heap.objs.size f cd::outer
 ex:=[]
 calm:=true
 fn:=fun _=>true
 pn:=[]
 xe:=fun e s'=>wpAny (model P w) (A.deeper (envOfC qual scope s.heap.objs.size f cd)) (leaving (envOfC qual scope s.heap.objs.size f cd) e) (fun _ s''=>CX outer H s E e s'') (fun e' s''=>CX outer H s E e' s'') s'
theorem BU{sc:Scope}{n:Nat}{x:Str}(h:sc.names.lookup x=some .cell):∃c,(cellsFrom n sc.names []).lookup x=some c:=by
 have q:=PySem.W.cellsFrom_some sc.names n [] (.inl h)
 exact Option.isSome_iff_exists.mp q
theorem DR{CX:AK}{P:Oh}{w:Ot}{K:N_}{mg:Str->N7 N8}{base:OC}{N ps:List Str}{qual:Str}{scope:Scope}{f:N9}{cd:N8}{A:OJ}{outer:List Env}{s s1:Oa}{H:Hp}{E:XK}{us:List N8}{vs:List V}
  (S:i4 N ps scope) (hd:A.handled=none) (e0:xW P w K mg base A outer s H) (hl:vs.length=ps.length) (r:l4 vs us)
  (x:InCallC s s.heap.objs.size (bindL (envOfC qual scope s.heap.objs.size f cd).kindOf (ps.zip us) fun _=>none) (cellsFrom (s.heap.objs.size+1) scope.names []) (bindC (envOfC qual scope s.heap.objs.size f cd).kindOf (ps.zip us) fun _=>none) s1) :
  Inv (uV CX P w K mg base N qual scope f cd A outer s H E) [] (start N vs) H s1:=by
 have hpl:ps.length<=N.length:=by have:=congrArg List.length S.pre;rw[Pj] at this;omega
 obtain⟨h1,tk,rfl,hk⟩:=x.done
 have noA:∀b:N9,b∉(uV CX P w K mg base N qual scope f cd A outer s H E).ex:=fun b z=>OA (show b∈([]:List N9) from z) (by simp)
 refine⟨⟨e0.mod,S.kind,rfl,rfl,Oo _,fun y z c h1 h2=>?_,fun y hy=>?_,fun y c _ h=>?_,fun _=>hd,Around.frames_deeper e0.frames,.inr ⟨rfl,rfl⟩,fun b z=>OA z (noA b),e0.bs,e0.bsz,fun b _ _=>noA b,fun b z=>OA z (noA b),e0.funs,e0.frf⟩,
  rfl,e0.bare,Un.kept hk,⟨_,x.toInCall.ns,fun i y v h1 h2 h3=>?_⟩,fun y c h=>⟨_,x.cell y c h⟩,e0.hok.fresh (Oo _),fun y c h=>?_,fun p hp=>OA (show p∈([]:List (N9×Obj)) from hp) (by simp),e0.hok.kept hk,?_⟩
 ·exact name_of_addr x.apart (O0 h1) (O0 h2)
 ·have hy:scope.names.lookup y=some .cell\/scope.names.lookup y=some .free:=hy
  rcases hy with hy | hy
  ·exact BU hy
  ·exact OA rfl (S.nofree _ (O0 hy))
 ·exact Nat.le_of_lt (x.above y c (O0 h))
 ·have hi:i<vs.length:=by
   unfold start at h2
   by_cases hi:i<vs.length
   ·exact hi
   ·rw[OT (by simpa using hi)] at h2
    rw[List.getElem?_replicate] at h2
    split at h2<;>cases h2
  have ha:vs[i]?=some v:=by
   unfold start at h2
   rw[O4 (by simpa using hi),O6] at h2
   cases e:vs[i]? with
   | none=>rw[e] at h2;cases h2
   | some a=>rw[e] at h2;cases h2;rfl
  obtain⟨u,hu,rv⟩:=r.get ha
  have hp:ps[i]?=some y:=by
   rw[<- S.pre,List.getElem?_take_of_lt (by omega)];exact h1
  have ndP:ps.Nodup:=by rw[<- S.pre];exact S.nd.sublist (List.take_sublist _ _)
  refine⟨u,rv,?_⟩
  rcases S.par y (O7 hp) with k | k
  ·exact .inl ⟨k,zX ndP hp hu k⟩
  ·obtain⟨c,e⟩:=BU (n:=s.heap.objs.size+1) k
   refine .inr ⟨.inl k,c,e,?_⟩
   have q:=x.cell y c e
   rw[Ae ndP hp hu (by show scope.names.lookup y≠_;rw[k];decide)] at q
   exact q
 ·exact e0.hok.fresh (Nat.le_of_lt (x.above y c (O0 h)))
 ·unfold start
  show _=N.length
  rw[OW,OK,List.length_replicate]
  omega
theorem pk {CX:AK} {P:Oh} {w:Ot} {K:N_} {mg:Str->N7 N8} {base:OC} {k:Nat} {f:N9} {name qual:Str} {params:Arguments} {body:List OE} {scope:Scope} {dV kV doc pm cdv ct oc:N8} {an od:N7 N9}
    {osl:Array (N7 N8)} {N ps:List Str} {sp:Sp} (lk:K.lookup f=some ⟨oc,od,.func (PySem.W.fnOf name qual params body scope dV kV doc pm an cdv ct),osl⟩) (hcd:PySem.W.codeIn K cdv qual=true) (S:i4 N ps scope)
    (len:∀vs H Q E,sp vs H Q E->vs.length=ps.length)
    (hbody:∀(A:OJ) (outer:List Env) (s:Oa) (H:Hp) (vs:List V) (Q:VK) (E:XK),rO k (A.deeper (envOfC qual scope s.heap.objs.size f cdv))->sp vs H Q E ->
      ∃t,PSs (uV CX P w K mg base N qual scope f cdv A outer s H E) body t/\t {nx:=fun _ H'=>Q .non H',rt:=Q} (start N vs) H) :
    k6 P w K mg base CX (k+1) f (PySem.W.fnOf name qual params body scope dV kV doc pm an cdv ct) ps sp:=by
  refine⟨len,fun A outer s H args us vs Q E hr e0 hb r hsp=>?_⟩
  have hl:=len _ _ _ _ hsp
  have KX:K.In s.heap:=e0.mod.kin.keeps fun b o e=>(e0.bs b o e).1
  have lim:s.heap.NoLimit:=e0.mod.nolimit.keeps fun b o e=>(e0.bs b o e).1
  have hkind:∀y∈ps.zip us,scope.names.lookup y.1=some .local\/(scope.names.lookup y.1=some .cell/\((cellsFrom (s.heap.objs.size+1) scope.names []).lookup y.1).isSome=true):=fun ⟨n,v⟩ hy=>by
    rcases S.par n (List.of_mem_zip hy).1 with q | q
    · exact .inl q
    · exact .inr ⟨q,PySem.W.cellsFrom_some _ _ _ (.inl q)⟩
  refine codeAny_call_function hr.depth (KX _ _ lk) rfl S.co S.gen rfl (PySem.W.codeRec_of KX hcd) (hb _ _ _ _ ?_)
  refine wpAny_newFunctionEnv_cells S.kind hkind fun env he s1 x=>?_
  subst he
  refine⟨lim.keeps x.toInCall.keep,codeAny_func ?_⟩
  obtain⟨t,ht,hq⟩:=hbody A outer s H vs Q E (hr.deeper _) hsp
  have I:Inv (uV CX P w K mg base N qual scope f cdv A outer s H E) [] (start N vs) H s1:=DR S hr.hd e0 hl r x
  refine Pe (ht [] s1 (start N vs) H _ I hq) (fun fl s' hs=>?_) fun e s' hs=>hs
  have fin:∀{σ':St} {H':Hp} {v:V} {u:N8},Inv (uV CX P w K mg base N qual scope f cdv A outer s H E) [] σ' H' s'->RelV v u->Q v H'->CE outer P w H s Q u s':=
    fun {σ' H' v u} J rv q=>⟨v,H',J.os,J.bare,J.base,J.hok,rv,q⟩
  cases fl with
  | ret u =>
    obtain⟨v,σ',H',J,rv,q⟩:=hs
    exact fin J rv q
  | next =>
    obtain⟨σ',H',J,q⟩:=hs
    exact fin (v:=V.non) (u:=Value.none) J rfl q
  | brk =>
    obtain⟨_,_,_,q⟩:=hs
    exact False.elim q
  | cont =>
    obtain⟨_,_,_,q⟩:=hs
    exact False.elim q
end L2
namespace L2
open PySem PySem.Spec PyProof.Rows
section
variable{X:Cx}{x:Str}{p pos:Pos}{e:OG}{es:List OG}{t:TA}{id T:String}{r:List V->Hp->VK->Prop}
def M9(r:List V->Hp->VK->Prop)(t:TA):TE:=fun σ H Q=>t σ H fun vs H1=>r vs H1 Q
theorem n_(hc:CallR X (.builtin id) r)(hg:Gl X x)(hm:X.mg x=none)(hv:bootBuiltins x=some (.builtin id))(ha:PA X (e::es) t)(hn:x ≠ "__name__":=by decide)(hdb:(x==("__debug__" : Str))=false:=by decide)
  (he:starEach (e::es) X.env=(false,eval e X.env)::starEach es X.env:=by rfl) (hpl:(backTo pos (starEach es X.env)).any (·.1)=false:=by rfl):PE X (.Call (.Name x p) (e::es) [] pos) (M9 r t):=by
 intro pins s σ H Q I h
 refine Pc (gy I hg hm hv ?_ hn hdb)
 exact PyProof.Rows.callWith_builtin1 (sh (ha pos pins s σ H _ I h) fun us s1 ⟨vs,H1,I1,r1,q1⟩=>hc pins s1 σ H1 vs us Q I1 r1 q1) he hpl
theorem nG(hc:CallR X (.type T) r)(hg:Gl X x)(hm:X.mg x=none)(hv:bootBuiltins x=some (.type T))(ha:PA X (e::es) t)(hn:x ≠ "__name__":=by decide)(hdb:(x==("__debug__" : Str))=false:=by decide)
  (he:starEach (e::es) X.env=(false,eval e X.env)::starEach es X.env:=by rfl) (hpl:(backTo pos (starEach es X.env)).any (·.1)=false:=by rfl):PE X (.Call (.Name x p) (e::es) [] pos) (M9 r t):=by
 intro pins s σ H Q I h
 refine Pc (gy I hg hm hv ?_ hn hdb)
 exact PyProof.Rows.callWith_type1 (sh (ha pos pins s σ H _ I h) fun us s1 ⟨vs,H1,I1,r1,q1⟩=>hc pins s1 σ H1 vs us Q I1 r1 q1) he hpl
end
end L2
namespace HT
open PySem PyProof.Rows
section
open PySem.SeqAt
open PySem.AutoSeq1 (wpAny_loadPart')
open PySem.MeetsSeq PySem.MeetsSeq2 PySem.MeetsSeq3
end
section
variable{prog:Oh}{w:Ot}{A:OJ}{E:N8->Oa->Prop}{s:Oa}
theorem cat_tup{t b:N9}{vs ws:List N8}{Q:N8->Oa->Prop}(ht:IsTup s.heap t vs.toArray)(hb:IsTup s.heap b ws.toArray)(hv:vs ≠ [])
  (h1:ws=[]->Q (.ref t) s) (h2:ws ≠ []->Q (.ref s.heap.objs.size) {s with heap:=s.heap.push {cls:=.type "tuple",data:=.seq (vs++ws).toArray} })
  (hsz:vs.length+ws.length<=sizeLine):wpAny (model prog w) A (binaryOp .Add (.ref t) (.ref b)) Q E s:=by
 obtain⟨⟨cls,dd,data,sl⟩,ho,hc,n,hd⟩:=id ht
 obtain⟨⟨cls2,dd2,data2,sl2⟩,ho2,hc2,n2,hd2⟩:=id hb
 simp only at hc hd hc2 hd2
 subst hc hd hc2 hd2
 have e:vs.toArray++ws.toArray=(vs++ws).toArray:=by simp
 by_cases hw:ws=[]
 ·exact concat_meets ⟨_,ho,rfl⟩ ⟨_,ho2,rfl⟩ noFill_tuple_add seq_tuple_add PySem.F.slot_tuple_add PySem.F.entry_tuple_add (PySem.F.args_tuple_add_2 _ _)
   (tuple_addW1 t b vs.toArray ws.toArray n n2 dd dd2 sl sl2 (by simpa using hv) (by simp[hw])) ⟨ho,ho2,h1 hw⟩
 ·refine concat_meets ⟨_,ho,rfl⟩ ⟨_,ho2,rfl⟩ noFill_tuple_add seq_tuple_add PySem.F.slot_tuple_add PySem.F.entry_tuple_add (PySem.F.args_tuple_add_2 _ _)
   (tuple_addW2 t b vs.toArray ws.toArray n n2 dd dd2 sl sl2 (by simpa using hv) (by simpa using hw) (by rw[On,On];exact hsz)) ⟨ho,ho2,?_⟩
  rw[e]
  exact h2 hw
noncomputable def sIx(n d:Nat):N7 Int->Nat
 | none=>d
 | some v=>if v<0 then (v+(n:Int)).toNat else min v.toNat n
theorem Jc(n d:Nat)(hd:d<=n)(o:N7 Int):sIx n d o<=n:=by
 cases o with
 | none=>exact hd
 | some v =>
  show(if v<0 then (v+(n:Int)).toNat else min v.toNat n)<=n
  by_cases hv:v<0
  ·rw[Of hv];omega
  ·rw[Ov hv];exact Nat.min_le_right _ _
theorem Dz(v:Int)(n d:Nat):(if v<0 then max (v+(n:Int)) 0 else min v (n:Int))=((sIx n d (some v):Nat):Int):=by
 show(if v<0 then max (v+(n:Int)) 0 else min v (n:Int))=(((if v<0 then (v+(n:Int)).toNat else min v.toNat n):Nat):Int)
 by_cases hv:v<0
 ·simp only[Of hv];omega
 ·simp only[Ov hv];omega
theorem Co(lo hi:N7 Int)(n:Nat):Builtin.Slice.sliceAdjust lo hi 1 (n:Int)=(((sIx n 0 lo:Nat):Int),((sIx n n hi:Nat):Int)):=by
 have h1:¬ ((1:Int)<0):=by omega
 unfold Builtin.Slice.sliceAdjust
 simp only[h1,if_false]
 refine Prod.ext ?_ ?_
 ·cases lo with
  | none=>rfl
  | some v=>exact Dz v n 0
 ·cases hi with
  | none=>rfl
  | some v=>exact Dz v n n
theorem CD(i j:Nat):Builtin.Slice.slicePlaces (i:Int) (j:Int) 1=j - i:=by
 unfold Builtin.Slice.slicePlaces
 have h1:(1:Int) > 0:=by omega
 simp only[h1,if_true,Int.ediv_one]
 split<;>omega
theorem yM{v:N8}{o:N7 Int}{Q:N7 Int->Oa->Prop}(p:IsPart v o)(h:Q o s):wpAny (model prog w) A (Builtin.Slice.slicePartIndex v) Q E s:=by
 cases p with
 | none=>exact slicePart_none h
 | int i t=>exact slicePart_int h
theorem sliceApplied_gen{sl:N9}{vl vu:N8}{lo hi:N7 Int}{n:Nat}{Q:Int×Int×Nat->Oa->Prop}(hs:s.heap.IsSliceOf sl vl vu .none)(pl:IsPart vl lo)(pu:IsPart vu hi)
  (h:Q (((sIx n 0 lo:Nat):Int),1,sIx n n hi - sIx n 0 lo) s):wpAny (model prog w) A (Builtin.Slice.sliceApplied (.ref sl) (pure (n:Int))) Q E s:=by
 obtain⟨os,hos,hcs,hds⟩:=id hs
 unfold Builtin.Slice.sliceApplied Builtin.Slice.sliceFields
 refine Ob (Ob (wpAny_field hos hds (x:=vl) rfl (Ob (wpAny_field hos hds (x:=vu) rfl (Ob (wpAny_field hos hds (x:=.none) rfl (Ou ?_)))))))
 refine Ob (slicePart_none ?_)
 show wpAny _ _ (if ((1:Int)==0)=true then _ else _) _ _ s
 rw[Ov (by decide)]
 refine Ob (yM pl (Ob (yM pu (Ob (Ou ?_)))))
 show wpAny _ _ (match Builtin.Slice.sliceAdjust lo hi 1 (n:Int) with | (lo,hi)=>pure (lo,(1:Int),Builtin.Slice.slicePlaces lo hi 1)) _ _ s
 rw[Co lo hi n]
 show wpAny _ _ (pure (((sIx n 0 lo:Nat):Int),(1:Int),Builtin.Slice.slicePlaces ((sIx n 0 lo:Nat):Int) ((sIx n n hi:Nat):Int) 1)) _ _ s
 rw[CD]
 exact Ou h
theorem EL(xs:Array N8)(i k:Nat):((List.range k).filterMap fun (m:Nat)=>xs[((i:Int)+(m:Int)*1).toNat]?).toArray=((xs.toList.drop i).take k).toArray:=by
 have e:(fun (m:Nat)=>xs[((i:Int)+(m:Int)*1).toNat]?)=fun m=>xs[i+m]?:=by
  funext m
  have:((i:Int)+(m:Int)*1).toNat=i+m:=by omega
  rw[this]
 rw[e]
 have:=pick_run xs i k
 rw[List.filterMap_map] at this
 have e2:((fun x=>xs[x]?) ∘ fun x=>i+x)=fun m=>xs[i+m]?:=rfl
 rw[e2] at this
 rw[this]
theorem getItem_tuple_cut{t sl:N9}{items:Array N8}{vl vu:N8}{lo hi:N7 Int}{Q:N8->Oa->Prop}(ht:IsTup s.heap t items)(hs:s.heap.IsSliceOf sl vl vu .none)(pl:IsPart vl lo)(pu:IsPart vu hi)
  (hw:¬ (sIx items.size 0 lo=0/\sIx items.size items.size hi=items.size))
  (h:Q (.ref s.heap.objs.size) {s with heap:=s.heap.push {cls:=.type "tuple",data:=.seq ((items.toList.drop (sIx items.size 0 lo)).take (sIx items.size items.size hi - sIx items.size 0 lo)).toArray} })
  (hsz:items.size<=sizeLine):wpAny (model prog w) A (getItem (.ref t) (.ref sl)) Q E s:=by
 have htake:sizeOk (.seq ((items.toList.drop (sIx items.size 0 lo)).take (sIx items.size items.size hi - sIx items.size 0 lo)).toArray):=by
  show((items.toList.drop (sIx items.size 0 lo)).take (sIx items.size items.size hi - sIx items.size 0 lo)).toArray.size<=sizeLine
  rw[On,Pj,Pu,Pf]
  omega
 have hj:sIx items.size items.size hi<=items.size:=Jc _ _ (Oo _) hi
 obtain⟨os,hos,hcs,hds⟩:=id hs
 have hTs:s.TypeIs (.ref sl) "slice":=⟨os,hos,hcs⟩
 unfold getItem
 try with_reducible refine wpAny_holding ?_
 first | refine Ob (Ou ?_) | skip
 refine Ob (wpAny_sequenceKey ht.typeIs (by decide) ?_)
 refine Ob (wpAny_callSpecial?_slot (name:=Str.ofString "__getitem__") ht.typeIs PyProof.Rows.slot_tuple_getitem
  (wpAny_call_entry PyProof.Rows.slot_tuple_getitem ht.typeIs entry_tuple_getitem ?_ (args_tuple_getitem _ _)))
 show wpAny _ _ (Builtin.Tuple.tupleItemsOf (.ref t) >>= _) _ _ s
 refine Ob (tupleItemsOf_ ht ?_)
 refine Ob (wpAny_typeOf hTs ?_)
 rw[Of (by decide)]
 refine Ob (sliceApplied_gen hs pl pu ?_)
 have hno:¬ ((((sIx items.size 0 lo:Nat):Int)==0&&(1:Int)==1&&(sIx items.size items.size hi - sIx items.size 0 lo)==items.size)=true):=by
  intro q
  rw[Oe,Oe] at q
  have q1:((sIx items.size 0 lo:Nat):Int)=0:=Pn q.1.1
  have q2:sIx items.size items.size hi - sIx items.size 0 lo=items.size:=Pn q.2
  exact hw ⟨by omega,by omega⟩
 show wpAny _ _ (if (((sIx items.size 0 lo:Nat):Int)==0&&(1:Int)==1&&(sIx items.size items.size hi - sIx items.size 0 lo)==items.size)=true then _ else _) _ _ s
 rw[Ov hno,EL]
 first
  | exact Ob (m:=Builtin.Tuple.tupleExact _) (Pd (Ou ⟨_,rfl,Ou h⟩) htake)
  | exact Ob (m:=Builtin.Tuple.tupleExact _) (Pd (Ob (Ou (Ou ⟨_,rfl,Ou h⟩))) htake)
  | exact Ob (Ob (m:=Builtin.Tuple.tupleExact _) (Pd (Ou (Ou ⟨_,rfl,Ou h⟩)) htake))
  | exact Ob (Ob (m:=Builtin.Tuple.tupleExact _) (Pd (Ou ⟨_,rfl,Ou h⟩) htake))
end
end HT
namespace L2
open PySem PySem.Spec PyProof.Rows
abbrev TO:=St->Hp->(N7 Int->Hp->Prop)->Prop
def PO(X:Cx)(e:N7 OG)(t:TO):Prop:=
 ∀(pins:List (N9×Obj)) (s:Oa) (σ:St) (H:Hp) (Q:N7 Int->Hp->Prop),Inv X pins σ H s->t σ H Q ->
  wpAny (model X.prog X.w) X.A (evalPart e X.env) (fun u s'=>∃o H',Inv X pins σ H' s'/\IsPart u o/\Q o H') X.xe s
def G0:TO:=fun _ H Q=>Q none H
def KY(t:TE):TO:=fun σ H Q=>t σ H fun x H1=>∃i,x=.int i/\Q (some i) H1
section
variable{X:Cx}{e:OG}{te:TE}{lo hi:N7 OG}{tl th:TO}{pos p2:Pos}
theorem Hb:PO X none G0:=by
 intro pins s σ H Q I h
 rw[evalPart_none]
 exact Ou ⟨none,H,I,.none,h⟩
theorem GO(h:PE X e te):PO X (some e) (KY te):=by
 intro pins s σ H Q I hw
 rw[evalPart_some]
 refine sh (h pins s σ H _ I hw) fun u s1 ⟨x,H1,I1,r1,q1⟩=>?_
 obtain⟨i,rfl,q⟩:=q1
 obtain⟨t,rfl⟩:=r1
 exact⟨some i,H1,I1,.int i t,q⟩
def HG(X:Cx)(r:V->N7 Int->N7 Int->Hp->VK->Prop):Prop:=
 ∀(pins:List (N9×Obj)) (s:Oa) (σ:St) (H:Hp) (x:V) (v vl vu:N8) (lo hi:N7 Int) (sl:N9) (Q:VK),Inv X pins σ H s->RelV x v->s.heap.IsSliceOf sl vl vu .none->IsPart vl lo->IsPart vu hi->r x lo hi H Q ->
  ∃T id,typeLookup (.type T) "__getitem__" = pure (some (.builtin id))/\s.TypeIs v T/\wpAny (model X.prog X.w) X.A (getItem v (.ref sl)) (EP X pins σ Q) X.xe s
theorem HG.or{r r':V->N7 Int->N7 Int->Hp->VK->Prop}(h:HG X r)(h':HG X r'):HG X (fun x lo hi H Q=>r x lo hi H Q\/r' x lo hi H Q):=by
 intro pins s σ H x v vl vu lo hi sl Q I rx hs pl pu q
 rcases q with q | q
 ·exact h pins s σ H x v vl vu lo hi sl Q I rx hs pl pu q
 ·exact h' pins s σ H x v vl vu lo hi sl Q I rx hs pl pu q
def NU(r:V->N7 Int->N7 Int->Hp->VK->Prop)(te:TE)(tl th:TO):TE:=fun σ H Q=>te σ H fun x H1=>tl σ H1 fun l H2=>th σ H2 fun u H3=>r x l u H3 Q
theorem oB{r:V->N7 Int->N7 Int->Hp->VK->Prop}(hr:HG X r)(he:PE X e te)(hl:PO X lo tl)(hu:PO X hi th):PE X (.Subscript e (.Slice lo hi none p2) pos) (NU r te tl th):=by
 intro pins s σ H Q I h
 refine Subscript_ (sh (he pins s σ H _ I h) fun v s1 ⟨x,H1,I1,r1,q1⟩=>?_)
 refine wpAny_Slice (sh (hl pins s1 σ H1 _ I1 q1) fun vl s2 ⟨l,H2,I2,pl,q2⟩=>sh (hu pins s2 σ H2 _ I2 q2) fun vu s3 ⟨u,H3,I3,pu,q3⟩=>?_)
 rw[evalPart_none]
 refine Ou ?_
 have I4:Inv X pins σ H3 {s3 with heap:=s3.heap.push {cls:=.type "slice",data:=.fields #[vl,vu,.none]} }:=I3.kept (t':=s3.toks) fun b ob q=>Og _ q
 obtain⟨T,id,hT,ht,hg⟩:=hr pins {s3 with heap:=s3.heap.push {cls:=.type "slice",data:=.fields #[vl,vu,.none]} } σ H3 x v vl vu l u s3.heap.objs.size Q I4 r1 (Heap.IsSliceOf.new ..) pl pu q3
 show wpAny (model X.prog X.w) X.A (subscriptTail e (.Slice lo hi none p2) v (.ref s3.heap.objs.size)) (EP X pins σ Q) X.xe {s3 with heap:=s3.heap.push {cls:=.type "slice",data:=.fields #[vl,vu,.none]} }
 exact tail_any (ops:=[.ref s3.heap.objs.size,v]) ht hT hg (by with_unfolding_all rfl)
def yn(xs:List V)(lo hi:N7 Int):List V:=(xs.drop (HT.sIx xs.length 0 lo)).take (HT.sIx xs.length xs.length hi - HT.sIx xs.length 0 lo)
theorem yh(xs:List V)(lo hi:N7 Int):(yn xs lo hi).length<=xs.length:=by
 unfold yn
 rw[Pj,Pu]
 omega
def MR(K:N_):V->N7 Int->N7 Int->Hp->VK->Prop:=fun x lo hi H Q=>∃a xs,x=.ref a/\vg K H a xs /\
 ¬ (HT.sIx xs.length 0 lo=0/\HT.sIx xs.length xs.length hi=xs.length)/\∀p,H p=none->Q (.ref p) (upd H p (.tup (yn xs lo hi)))
theorem Jz:HG X (MR X.K):=by
 intro pins s σ H x v vl vu lo hi sl Q I rx hs pl pu h
 obtain⟨a,xs,rfl,hx,hw,q⟩:=h
 cases rx
 obtain⟨its,r,ht,hz⟩:=I.tuple hx
 have hlen:its.toArray.size=xs.length:=by rw[On];exact r.length.symm
 refine⟨"tuple",_,PyProof.Rows.slot_tuple_getitem.lookup,ht.typeIs,?_⟩
 refine HT.getItem_tuple_cut ht hs pl pu (by rw[hlen];exact hw) ?_ (by rw[hlen];exact hz)
 rw[hlen]
 refine⟨.ref s.heap.objs.size,_,I.laid (t':=s.toks) (o:=.tup (yn xs lo hi)) (fun b ob q=>Og _ q) (Oo _) ?_,rfl,q _ (I.hok.fresh (Oo _))⟩
 exact⟨OH (yh xs lo hi) hz,_,(r.drop (HT.sIx xs.length 0 lo)).take (HT.sIx xs.length xs.length hi - HT.sIx xs.length 0 lo),uY.new _ _⟩
def La(K:N_):R2:=fun x y H Q=>∃a b xs ys,x=.ref a/\y=.ref b/\vg K H a xs/\vg K H b ys/\xs ≠ []/\xs.length+ys.length<=sizeLine /\
 (ys=[]->Q (.ref a) H)/\(ys ≠ []->∀p,H p=none->Q (.ref p) (upd H p (.tup (xs++ys))))
theorem l4.nil_iff{xs:List V}{us:List N8}(r:l4 xs us):us=[]↔xs=[]:=by
 cases r with
 | nil=>simp
 | cons _ _=>simp
theorem GL:OpR X (binaryOp .Add) (La X.K):=by
 intro pins s σ H x y v u Q I rx ry h
 obtain⟨a,b,xs,ys,rfl,rfl,ha,hb,hx,hz,q1,q2⟩:=h
 cases rx
 cases ry
 obtain⟨its,r1,p1,_⟩:=I.tuple ha
 obtain⟨its2,r2,p2,_⟩:=I.tuple hb
 refine HT.cat_tup p1 p2 (fun z=>hx (r1.nil_iff.mp z)) (fun z=>⟨.ref a,H,I,rfl,q1 (r2.nil_iff.mp z)⟩) (fun z=>?_) (by rw[<- r1.length,<- r2.length];exact hz)
 refine⟨.ref s.heap.objs.size,_,I.laid (t':=s.toks) (o:=.tup (xs++ys)) (fun b ob q=>Og _ q) (Oo _) ?_,rfl,q2 (fun w=>z (r2.nil_iff.mpr w)) _ (I.hok.fresh (Oo _))⟩
 exact⟨by rw[OW];exact hz,_,r1.append r2,uY.new _ _⟩
end
end L2
namespace L2
open PySem PySem.Spec PyProof.Rows
noncomputable def Lj(n:Nat)(i:Int):N7 Nat:=if 0<=i then (if i<n then some i.toNat else none) else if -(n:Int)<=i then some (i+n).toNat else none
def Jt{α:Type}(xs:List α)(i:Int):N7 α:=(Lj xs.length i).bind fun j=>xs[j]?
theorem Hf{n:Nat}{i:Int}{j:Nat}(h:Lj n i=some j):seqIndex? i n=some j/\j<n /\ -(n:Int)<=i/\i<n:=by
 unfold Lj at h
 by_cases h0:0<=i
 ·rw[Of h0] at h
  by_cases h1:i<n
  ·rw[Of h1] at h
   have e:i.toNat=j:=Ow h
   exact⟨by rw[seqIndex_of h0 h1,e],by omega,by omega,h1⟩
  ·rw[Ov h1] at h;cases h
 ·rw[Ov h0] at h
  by_cases h1 : -(n:Int)<=i
  ·rw[Of h1] at h
   have e:(i+n).toNat=j:=Ow h
   exact⟨by rw[seqIndex_neg (by omega) h1,e],by omega,h1,by omega⟩
  ·rw[Ov h1] at h;cases h
theorem AS{α:Type}{xs:List α}{i:Int}{v:α}(h:Jt xs i=some v):∃j,seqIndex? i xs.length=some j/\xs[j]?=some v/\j<xs.length /\ -(xs.length:Int)<=i/\i<xs.length:=by
 unfold Jt at h
 cases e:Lj xs.length i with
 | none=>rw[e] at h;cases h
 | some j =>
  rw[e] at h
  obtain⟨h1,h2,h3,h4⟩:=Hf e
  exact⟨j,h1,h,h2,h3,h4⟩
def Aw(b:OG):Prop:=∀o i,subscripted b false o i=operate [o,i] (getItem o i)
def IxR(X:Cx)(r:R2):Prop:=
 ∀(value slice:OG) (pins:List (N9×Obj)) (s:Oa) (σ:St) (H:Hp) (x y:V) (v u:N8) (Q:VK),Inv X pins σ H s->RelV x v->RelV y u->r x y H Q ->
  subscripted slice false v u=operate [v,u] (getItem v u)->wpAny (model X.prog X.w) X.A (subscriptTail value slice v u) (EP X pins σ Q) X.xe s
def Gi(X:Cx)(id:String)(r:V->List V->Hp->VK->Prop):Prop:=
 ∀(pins:List (N9×Obj)) (s:Oa) (σ:St) (H:Hp) (x:V) (xs:List V) (v:N8) (us:List N8) (Q:VK),Inv X pins σ H s->RelV x v->l4 xs us->r x xs H Q ->
  wpAny (model X.prog X.w) X.A (call (.builtin id) (v::us)) (EP X pins σ Q) X.xe s
section
variable{X:Cx}{a b:OG}{ta tb:TE}{pos:Pos}
theorem IxR.or{r r':R2}(h:IxR X r)(h':IxR X r'):IxR X (fun x y H Q=>r x y H Q\/r' x y H Q):=by
 intro value slice pins s σ H x y v u Q I rx ry q hs
 rcases q with q | q
 ·exact h value slice pins s σ H x y v u Q I rx ry q hs
 ·exact h' value slice pins s σ H x y v u Q I rx ry q hs
theorem Gi.or{id:String}{r r':V->List V->Hp->VK->Prop}(h:Gi X id r)(h':Gi X id r'):Gi X id (fun x xs H Q=>r x xs H Q\/r' x xs H Q):=by
 intro pins s σ H x xs v us Q I rx rs q
 rcases q with q | q
 ·exact h pins s σ H x xs v us Q I rx rs q
 ·exact h' pins s σ H x xs v us Q I rx rs q
theorem qk{r:R2}(hr:IxR X r)(ha:PE X a ta)(hb:PE X b tb)(hs:Aw b):PE X (.Subscript a b pos) (LK r ta tb):=by
 intro pins s σ H Q I h
 exact Subscript_ (Jq ha hb I h fun v u s2 x y H2 I2 rx ry q=>hr a b pins s2 σ H2 x y v u Q I2 rx ry q (hs _ _))
def Mr(K:N_):R2:=fun x y H Q=>∃p xs i v,x=.ref p/\y=.int i/\uJ K H p xs/\Jt xs i=some v/\Q v H
def Mf(K:N_):R2:=fun x y H Q=>∃p xs i v,x=.ref p/\y=.int i/\vg K H p xs/\Jt xs i=some v/\Q v H
def MI:R2:=fun x y H Q=>∃z i c,x=.str z/\y=.int i/\z.length<=sizeLine/\Jt z.cps.toList i=some c/\Q (.str ⟨#[c]⟩) H
theorem GS:IxR X (Mr X.K):=by
 intro value slice pins s σ H x y v u Q I rx ry h hs
 obtain⟨p,xs,i,z,rfl,rfl,hq,he,q⟩:=h
 cases rx
 obtain⟨t,rfl⟩:=ry
 obtain⟨its,r,pl,hz⟩:=I.list hq
 obtain⟨j,h1,h2,h3,h4,h5⟩:=AS he
 obtain⟨w,ew,rw'⟩:=r.get h2
 have hl:=r.length
 have hn:=zb
 have fin:EP X pins σ Q w s:=⟨z,H,I,rw',q⟩
 by_cases h0:0<=i
 ·have hj:i.toNat=j:=by
   rw[seqIndex_of h0 h5] at h1
   exact Ow h1
  exact item_listR pl.isList h0 (by omega) (by rw[hj];simpa using ew) fin hs
 ·have hj:(i+(its.toArray.size:Int)).toNat=j:=by
   rw[seqIndex_neg (by omega) h4] at h1
   rw[On,<- hl]
   exact Ow h1
  exact subscriptTail_builtinR (x:=w) pl.isList.typeIs slot_list_getitem.lookup
   (wpAny_getItem_list_neg (Q:=fun r s'=>r=w/\EP X pins σ Q r s') pl.isList (by omega) (by rw[On]<;>omega) (by omega) (by rw[hj];simpa using ew) ⟨rfl,fin⟩) hs
theorem JD:IxR X (Mf X.K):=by
 intro value slice pins s σ H x y v u Q I rx ry h hs
 obtain⟨p,xs,i,z,rfl,rfl,hq,he,q⟩:=h
 cases rx
 obtain⟨t,rfl⟩:=ry
 obtain⟨its,r,pl,hz⟩:=I.tuple hq
 obtain⟨j,h1,h2,h3,h4,h5⟩:=AS he
 obtain⟨w,ew,rw'⟩:=r.get h2
 have hl:=r.length
 have hn:=zb
 have fin:EP X pins σ Q w s:=⟨z,H,I,rw',q⟩
 exact subscriptTail_builtinR (x:=w) pl.typeIs slot_tuple_getitem.lookup
  (getItem_tuple (j:=j) (Q:=fun r s'=>r=w/\EP X pins σ Q r s') pl (by omega) (by omega) (by rw[On,<- hl];exact h1) (by simpa using ew) ⟨rfl,fin⟩) hs
theorem JL:IxR X MI:=by
 intro value slice pins s σ H x y v u Q I rx ry h hs
 obtain⟨z,i,c,rfl,rfl,hz,he,q⟩:=h
 obtain⟨t,rfl⟩:=rx
 obtain⟨t',rfl⟩:=ry
 obtain⟨j,h1,h2,h3,h4,h5⟩:=AS he
 have hl:z.cps.toList.length=z.length:=by simp[Str.length]
 rw[hl] at h1 h4 h5
 have hn:=zb
 exact tail_any (typeIs_str s z t) slot_str_getitem.lookup (getItem_str (c:=c) (by
  have e1:decide (i < -(2 ^ 63:Int))=false:=OO (by omega)
  have e2:decide (i ≥ 2 ^ 63)=false:=OO (by omega)
  rw[e1,e2,Bool.or_false]) (by rw[h1];simpa using h2) ⟨.str ⟨#[c]⟩,H,I.tok _,⟨_,rfl⟩,q⟩) hs
theorem Inv.lst{pins:List (N9×Obj)}{σ:St}{H:Hp}{s:Oa}{p:N9}{xs:List V}(I:Inv X pins σ H s)(h:H p=some (.lst xs)) :
  ∃(its:List N8) (n:Nat),l4 xs its/\s.heap.get? p=some {cls:=.type "list",data:=.seq its.toArray n}/\xs.length<=sizeLine:=by
 obtain⟨z,its,n,r,e⟩:=I.hok p _ h
 exact⟨its,n,r,e,z⟩
theorem AE(lo hi:N7 Int)(n:Nat):(sliceBounds lo hi none n).1=((HT.sIx n 0 lo:Nat):Int)/\(sliceBounds lo hi none n).2.1=((HT.sIx n n hi:Nat):Int)/\(sliceBounds lo hi none n).2.2=1:=by
 refine⟨?_,?_,rfl⟩
 ·cases lo with
  | none=>simp[sliceBounds,HT.sIx]
  | some i =>
   simp only[sliceBounds,HT.sIx,Option.getD_none,show(1:Int) > 0 by decide,if_true]
   by_cases h:i<0
   ·simp only[h,if_true]<;>omega
   ·simp only[h,if_false]<;>omega
 ·cases hi with
  | none=>simp[sliceBounds,HT.sIx]
  | some i =>
   simp only[sliceBounds,HT.sIx,Option.getD_none,show(1:Int) > 0 by decide,if_true]
   by_cases h:i<0
   ·simp only[h,if_true]<;>omega
   ·simp only[h,if_false]<;>omega
theorem zD(its:List N8)(lo hi:N7 Int):slicePick its.toArray lo hi none=((its.drop (HT.sIx its.length 0 lo)).take (HT.sIx its.length its.length hi - HT.sIx its.length 0 lo)).toArray:=by
 obtain⟨h1,h2,h3⟩:=AE lo hi its.toArray.size
 unfold slicePick
 rw[h1,h2,h3]
 simp only[sliceRange_one,pick_run,On]<;>rfl
def L8(K:N_):V->N7 Int->N7 Int->Hp->VK->Prop:=fun x lo hi H Q=>∃a xs,x=.ref a/\uJ K H a xs/\∀p,H p=none->Q (.ref p) (upd H p (.lst (yn xs lo hi)))
theorem GX:HG X (L8 X.K):=by
 intro pins s σ H x v vl vu lo hi sl Q I rx hs pl pu h
 obtain⟨a,xs,rfl,hx,q⟩:=h
 cases rx
 obtain⟨its,r,ht,hz⟩:=I.list hx
 have hlen:=r.length
 refine⟨"list",_,slot_list_getitem.lookup,ht.isList.typeIs,?_⟩
 refine wpAny_getItem_list_slice ht.isList hs pl pu .none (by simp) ?_ (by rw[On]<;>omega)
 rw[zD,<- hlen]
 refine⟨.ref s.heap.objs.size,_,I.laid (t':=s.toks) (o:=.lst (yn xs lo hi)) (fun b ob q=>Og _ q) (Oo _) ?_,rfl,q _ (I.hok.fresh (Oo _))⟩
 exact⟨OH (yh xs lo hi) hz,_,0,(r.drop (HT.sIx xs.length 0 lo)).take (HT.sIx xs.length xs.length hi - HT.sIx xs.length 0 lo),Ox _ rfl⟩
theorem AV:CallR X (.builtin "len") (fun xs H Q=>∃p ys,xs=[.ref p]/\(uJ X.K H p ys\/vg X.K H p ys)/\Q (.int ys.length) H):=by
 intro pins s σ H xs us Q I r h
 obtain⟨p,ys,rfl,hq,q⟩:=h
 obtain⟨u,rfl,rx⟩:=vals1 r
 cases rx
 have hn:=zb
 rcases hq with hq | hq
 ·obtain⟨its,r',pl,hz⟩:=I.list hq
  have hlen:=r'.length
  exact Calls.call_len_list pl.isList (by simp only[On]<;>omega) ⟨.int ys.length,H,I.tok _,⟨s.toks+1,by rw[On,hlen]⟩,q⟩
 ·obtain⟨its,r',pl,hz⟩:=I.tuple hq
  have hlen:=r'.length
  exact len_tuple pl (by simp only[On]<;>omega) ⟨.int ys.length,H,I.tok _,⟨s.toks+1,by rw[On,hlen]⟩,q⟩
theorem CallR.or{f:N8}{r r':List V->Hp->VK->Prop}(h:CallR X f r)(h':CallR X f r'):CallR X f (fun xs H Q=>r xs H Q\/r' xs H Q):=by
 intro pins s σ H xs us Q I rs q
 rcases q with q | q
 ·exact h pins s σ H xs us Q I rs q
 ·exact h' pins s σ H xs us Q I rs q
theorem zF:CallR X (.type "tuple") (fun xs H Q=>∃p ys,xs=[.ref p]/\((uJ X.K H p ys/\∀l,H l=none->Q (.ref l) (upd H l (.tup ys)))\/(vg X.K H p ys/\Q (.ref p) H))):=by
 intro pins s σ H xs us Q I r h
 obtain⟨p,ys,rfl,h⟩:=h
 obtain⟨u,rfl,rx⟩:=vals1 r
 cases rx
 rcases h with ⟨hq,q⟩ | ⟨hq,q⟩
 ·obtain⟨its,r',pl,hz⟩:=I.list hq
  have hlen:=r'.length
  refine call_tuple_list pl.isList (fun h' kp=>?_) (by simp only[On]<;>omega)
  have I1:Inv X pins σ H {s with heap:=h' }:=I.kept (t':=s.toks) kp
  have I2:Inv X pins σ (upd H h'.objs.size (.tup ys)) {s with heap:=h'.push {cls:=.type "tuple",data:=.seq its.toArray} }:=
   I1.laid (t':=s.toks) (fun b o e=>Og _ e) (Oo _) (show tK X.prog X.w _ _ _ (.tup ys) from⟨hz,its,r',uY.new _ _⟩)
  exact⟨.ref h'.objs.size,_,I2,rfl,q _ (I1.hok.fresh (Oo _))⟩
 ·obtain⟨its,r',pl,hz⟩:=I.tuple hq
  exact call_tuple_same pl ⟨.ref p,H,I,rfl,q⟩
def Mc(K:N_)(T:String)(x:V)(H:Hp):Prop:=match x with
 | .str _=>T = "str"
 | .int _=>T = "int"
 | .ref p=>(T = "list" /\ ∃xs,uJ K H p xs)\/(T = "tuple" /\ ∃o,K.lookup p=some o/\o.cls=.type "tuple" /\ o.dict=none) \/
   (T = "dict" /\ ((∃kvs,H p=some (.dK kvs))\/∃kvs,H p=some (.dT kvs)))\/(T = "set" /\ ∃S n,H p=some (.set S n))
 | _=>False
theorem Cb{pins:List (N9×Obj)}{σ:St}{H:Hp}{s:Oa}{T:String}{x:V}{v:N8}(I:Inv X pins σ H s)(r:RelV x v)(ty:Mc X.K T x H) :
  s.TypeIs v T/\∀a,v=.ref a->∃ob,s.heap.get? a=some ob/\ob.dict=none:=by
 cases x with
 | str z =>
  obtain⟨t,rfl⟩:=r
  cases (show T = "str" from ty)
  exact⟨typeIs_str s z t,fun _ e=>nomatch e⟩
 | int i =>
  obtain⟨t,rfl⟩:=r
  cases (show T = "int" from ty)
  exact⟨typeIs_int s i t,fun _ e=>nomatch e⟩
 | ref p =>
  cases r
  rcases ty with ⟨rfl,xs,hq⟩ | ⟨rfl,o,hk,hc,hd⟩ | ⟨rfl,hk⟩ | ⟨rfl,S,n,hk⟩
  ·obtain⟨its,_,pl,_⟩:=I.list hq
   refine⟨pl.isList.typeIs,fun a e=>?_⟩
   cases e
   obtain⟨o,n,e,c,hd,_⟩:=pl
   exact⟨o,e,hd⟩
  ·refine⟨⟨o,I.kIn p o hk,hc⟩,fun a e=>?_⟩
   cases e
   exact⟨o,I.kIn _ o hk,hd⟩
  ·have z:∃o,s.heap.get? p=some o/\o.ExactDict:=by
    rcases hk with ⟨kvs,hk⟩ | ⟨kvs,hk⟩
    ·obtain⟨_,_,_,_,o,_,_,e,ex,_⟩:=I.hok p _ hk
     exact⟨o,e,ex⟩
    ·obtain⟨_,_,_,_,o,_,_,e,ex,_⟩:=I.hok p _ hk
     exact⟨o,e,ex⟩
   obtain⟨o,e,ex⟩:=z
   refine⟨⟨o,e,ex.1⟩,fun a e2=>?_⟩
   cases e2
   exact⟨o,e,ex.2.1⟩
  ·obtain⟨o,_,_,_,e,ex,_⟩:=I.hok p _ hk
   refine⟨⟨o,e,ex.1⟩,fun a e2=>?_⟩
   cases e2
   exact⟨o,e,ex.2.1⟩
 | _=>exact False.elim ty
def Mv(K:N_)(T:String)(r:V->List V->Hp->VK->Prop)(to:TE):TE:=fun σ H Q=>to σ H fun x H1=>Mc K T x H1/\r x [] H1 Q
def NR(K:N_)(T:String)(r:V->List V->Hp->VK->Prop)(to:TE)(t:TA):TE:=fun σ H Q=>to σ H fun x H1=>Mc K T x H1/\t σ H1 fun xs H2=>r x xs H2 Q
variable{o e:OG}{es:List OG}{to:TE}{t:TA}{name:Str}{apos cpos:Pos}{T id:String}{r:V->List V->Hp->VK->Prop}
theorem qI(pa:PlainAttrs T)(slot:Slot T name id)(hty:typeOf (.builtin id)=pure (.type "method_descriptor"))(hm:Gi X id r)(ho:PE X o to)
  (hbase:attributeBase o name X.env (eval o X.env)=eval o X.env:=by rfl) (hline:(apos.endLine==cpos.line)=true:=by rfl):PE X (.Call (.Attribute o name apos) [] [] cpos) (Mv X.K T r to):=by
 intro pins s σ H Q I h
 refine wpAny_Call_method0_late hbase hline (sh (ho pins s σ H _ I h) fun v s1 ⟨x,H1,I1,r1,ty,q1⟩=>?_)
 obtain⟨h1,h2⟩:=Cb I1 r1 ty
 exact⟨T,id,pa,slot,hty,h1,h2,Calls.callWith_builtin rfl (PySem.evalArgs_none (hm pins s1 σ H1 x [] v [] Q I1 r1 .nil q1))⟩
theorem qp (pa:PlainAttrs T) (slot:Slot T name id) (hty:typeOf (.builtin id)=pure (.type "method_descriptor")) (hm:Gi X id r) (ho:PE X o to) (ha:PA X (e::es) t)
    (hbase:attributeBase o name X.env (eval o X.env)=eval o X.env:=by rfl)
    (hfew:((backTo cpos (starEach (e::es) X.env)).all (fun x=>!x.1)&&(backToKw cpos (keywordEach [] X.env)).all (fun x=>x.1.isSome)
      && decide ((e::es).length+([]:List Keyword).length+(if ([]:List Keyword).isEmpty then 0 else 1)<30))=true:=by rfl)
    (hline:(apos.endLine==cpos.line)=true:=by rfl) (hs:starEach (e::es) X.env=(false,eval e X.env)::starEach es X.env:=by rfl) (hplain:(backTo cpos (starEach es X.env)).any (·.1)=false:=by rfl) :
    PE X (.Call (.Attribute o name apos) (e::es) [] cpos) (NR X.K T r to t):=by
  intro pins s σ H Q I h
  refine wpAny_Call_method_late hbase hfew hline rfl (sh (ho pins s σ H _ I h) fun v s1 ⟨x,H1,I1,r1,ty,q1⟩=>?_)
  obtain⟨h1,h2⟩:=Cb I1 r1 ty
  refine⟨T,id,pa,slot,hty,h1,h2,?_⟩
  have hA:=ha cpos pins s1 σ H1 _ I1 q1
  rw[hs] at hA ⊢
  refine Calls.callWith_builtin (by show(false||(backTo cpos (starEach es X.env)).any (·.1))=false;rw[hplain]<;>rfl) (Calls.evalArgs_plain ?_)
  exact sh hA fun us s2 ⟨vs,H2,I2,r2,q2⟩=>hm pins s2 σ H2 x vs v us Q I2 r1 r2 q2
/- xs.append(e),list.index on a module's tuple .. are Gi facts of 06m -/
end
end L2
namespace L2
open PySem PySem.Spec PyProof.Rows
def LJ(X:Cx)(id:String)(r:V->List V->Hp->VK->Prop):Prop:=
 ∀(pins:List (N9×Obj)) (s:Oa) (σ:St) (H:Hp) (x:V) (xs:List V) (v:N8) (us:List N8) (Q:VK),Inv X pins σ H s->RelV x v->l4 xs us->r x xs H Q ->
  wpAny (model X.prog X.w) X.A (call (.builtin id) (v::us)) (EP X pins σ Q) X.xe s
theorem l4.one:∀{x:V} {us:List N8},l4 [x] us->∃u,us=[u]/\RelV x u
 | _,_,h=>by cases h with | cons r t=>cases t;exact⟨_,rfl,r⟩
theorem l4.two:∀{x y:V} {us:List N8},l4 [x,y] us->∃u v,us=[u,v]/\RelV x u/\RelV y v
 | _,_,_,h=>by cases h with | cons r t=>cases t with | cons q t=>cases t;exact⟨_,_,rfl,r,q⟩
theorem l4.zero:∀{us:List N8},l4 [] us->us=[]
 | _,.nil=>rfl
theorem l4.dropLast{xs:List V}{us:List N8}(h:l4 xs us):l4 xs.dropLast us.dropLast:=by
 induction h with
 | nil=>exact .nil
 | cons r t ih =>
  cases t with
  | nil=>exact .nil
  | cons q t'=>exact .cons r ih
theorem l4.eraseIdx:∀{xs:List V} {us:List N8} (i:Nat),l4 xs us->l4 (xs.eraseIdx i) (us.eraseIdx i)
 | _,_,_,.nil=>.nil
 | _,_,0,.cons _ t=>t
 | _,_,i+1,.cons r t=>.cons r (l4.eraseIdx i t)
theorem l4.reverse{xs:List V}{us:List N8}(h:l4 xs us):l4 xs.reverse us.reverse:=by
 induction h with
 | nil=>exact .nil
 | cons r t ih=>rw[List.reverse_cons,List.reverse_cons];exact l4.append ih (.cons r .nil)
theorem Cz{α:Type}(l:List α):l.eraseIdx (l.length - 1)=l.dropLast:=by
 induction l with
 | nil=>rfl
 | cons a r ih =>
  cases r with
  | nil=>rfl
  | cons b r =>
   have e:(a::b::r).length - 1=((b::r).length - 1)+1:=by
    have h1:(a::b::r).length=r.length+2:=rfl
    have h2:(b::r).length=r.length+1:=rfl
    omega
   rw[e,List.eraseIdx_cons_succ,ih]
   all_goals rfl
section
variable{X:Cx}{pins:List (N9×Obj)}{σ:St}{H:Hp}{s:Oa}{l b:N9}{xs ys zs:List V}
theorem Inv.lset{its its':List N8}{n:Nat}{f:Array N8->Array N8}{t':Nat}(I:Inv X pins σ H s)(hH:H l=some (.lst xs))
  (e:s.heap.get? l=some {cls:=.type "list",data:=.seq its.toArray n}) (hf:f its.toArray=its'.toArray) (hv:l4 ys its') (hz:ys.length<=sizeLine) :
  Inv X pins σ (upd H l (.lst ys)) {s with heap:=s.heap.update l (Obj.mapSeq f),toks:=t' }:=by
 have q:=PySem.IsL.update e f
 rw[hf] at q
 refine I.write (x:=l) (e:=l) (by rw[hH];exact trivial) (.inl rfl) (fun b' u hb hu=>(OY s.heap (Obj.mapSeq f) (Ne.symm hb)).trans hu) ⟨_,q⟩ ?_
 exact⟨hz,its',_,hv,q⟩
theorem Inv.lnew{its:List N8}{t':Nat}(I:Inv X pins σ H s)(hv:l4 ys its)(hz:ys.length<=sizeLine) :
  Inv X pins σ (upd H s.heap.objs.size (.lst ys)) {s with heap:=s.heap.push {cls:=.type "list",data:=.seq its.toArray},toks:=t' }:=
 I.laid (fun _ _ q=>Og _ q) (Oo _) ⟨hz,its,0,hv,Ox _ rfl⟩
theorem Inv.fresh(I:Inv X pins σ H s):H s.heap.objs.size=none:=I.hok.fresh (Oo _)
theorem Inv.lstM(I:Inv X pins σ H s)(hH:H l=some (.lst xs)):xs.length<=sizeLine/\∃(its:List N8) (n:Nat),l4 xs its/\xs.length=its.length/\s.heap.get? l=some {cls:=.type "list",data:=.seq its.toArray n}:=by
 obtain⟨z,its,n,r,e⟩:=I.hok l _ hH
 exact⟨z,its,n,r,r.length,e⟩
theorem Fp{n:Nat}(h:n<=sizeLine):Builtin.List.listTooLong n=false:=by
 unfold Builtin.List.listTooLong
 exact OO (by omega)
end
section
variable{X:Cx}
def GP:V->List V->Hp->VK->Prop:=fun x vs H Q=>∃l xs y,x=.ref l/\vs=[y]/\H l=some (.lst xs)/\xs.length<sizeLine/\Q .non (upd H l (.lst (xs++[y])))
theorem jx:LJ X "list.append" GP:=by
 intro pins s σ H x vs v us Q I rx rv h
 obtain⟨l,xs,y,rfl,rfl,hH,hz,q⟩:=h
 cases rx
 obtain⟨u,rfl,ru⟩:=rv.one
 obtain⟨z,its,n,r,hl,e⟩:=I.lstM hH
 refine call_meets F.slot_list_append ⟨_,e,rfl⟩ F.entry_list_append (F.args_list_append_2 _ _) (PySem.list_append l its.toArray n u (by rw[On];omega)) ⟨e,?_⟩
 refine⟨.non,_,I.lset (its':=its++[u]) hH e (by simp) (r.append (.cons ru .nil)) ?_,rfl,q⟩
 rw[OW,List.length_singleton]
 omega
def Hl:V->List V->Hp->VK->Prop:=fun x vs H Q=>∃l b xs zs,x=.ref l/\vs=[.ref b]/\H l=some (.lst xs)/\H b=some (.lst zs)/\xs.length+zs.length<=sizeLine/\Q .non (upd H l (.lst (xs++zs)))
theorem rh:LJ X "list.extend" Hl:=by
 intro pins s σ H x vs v us Q I rx rv h
 obtain⟨l,b,xs,zs,rfl,rfl,hH,hB,hz,q⟩:=h
 cases rx
 obtain⟨u,rfl,ru⟩:=rv.one
 cases ru
 obtain⟨z,its,n,r,hl,e⟩:=I.lstM hH
 obtain⟨z2,its2,n2,r2,hl2,e2⟩:=I.lstM hB
 have hsz:its.toArray.size+its2.toArray.size<=sizeLine:=by rw[On,On];omega
 have hlong:¬ (!its.toArray.isEmpty&&Builtin.List.listTooLong (its.toArray.size+its2.toArray.size))=true:=by
  rw[Fp hsz,Bool.and_false]
  exact Oi
 refine call_meets F.slot_list_extend ⟨_,e,rfl⟩ F.entry_list_extend (F.args_list_extend_2 _ _)
  (AutoSeq1.list_extend_list_list_0 l its.toArray n b its2.toArray n2 hlong (by rw[On];omega) (by omega)) ⟨e,e2,?_⟩
 refine⟨.non,_,I.lset (its':=its++its2) hH e (by simp) (r.append r2) ?_,rfl,q⟩
 rw[OW]
 omega
def ME:V->List V->Hp->VK->Prop:=fun x vs H Q=>∃l xs y,x=.ref l/\vs=[]/\H l=some (.lst xs)/\xs[xs.length - 1]?=some y/\Q y (upd H l (.lst xs.dropLast))
theorem qQ:LJ X "list.pop" ME:=by
 intro pins s σ H x vs v us Q I rx rv h
 obtain⟨l,xs,y,rfl,rfl,hH,hy,q⟩:=h
 cases rx
 have hus:=rv.zero
 subst hus
 obtain⟨z,its,n,r,hl,e⟩:=I.lstM hH
 obtain⟨u,hu,ru⟩:=r.get hy
 have hy':its.toArray[its.toArray.size - 1]?=some u:=by
  show its.toArray[its.length - 1]?=some u
  rw[<- Array.getElem?_toList,<- hl]
  exact hu
 refine call_meets F.slot_list_pop ⟨_,e,rfl⟩ F.entry_list_pop (F.args_list_pop_1 _) (MeetsSeq.list_pop_last l its.toArray n u hy' (by rw[On];omega)) ⟨e,?_⟩
 refine⟨y,_,I.lset (its':=its.dropLast) hH e ?_ r.dropLast ?_,ru,q⟩
 ·show its.toArray.eraseIdxIfInBounds (its.toArray.size - 1)=its.dropLast.toArray
  rw[On,List.eraseIdxIfInBounds_toArray,Cz]
 ·rw[List.length_dropLast]
  omega
def MA:R2:=fun x y H Q=>∃l b xs zs,x=.ref l/\y=.ref b/\H l=some (.lst xs)/\H b=some (.lst zs)/\xs.length+zs.length<=sizeLine/\∀p,H p=none->Q (.ref p) (upd H p (.lst (xs++zs)))
theorem Iv:OpR X (binaryOp .Add) MA:=by
 intro pins s σ H x y v u Q I rx ry h
 obtain⟨l,b,xs,zs,rfl,rfl,hH,hB,hz,q⟩:=h
 cases rx
 cases ry
 obtain⟨z,its,n,r,hl,e⟩:=I.lstM hH
 obtain⟨z2,its2,n2,r2,hl2,e2⟩:=I.lstM hB
 refine PySem.P.add_list e e2 ?_ (by rw[On,On];omega)
 have ea:its.toArray++its2.toArray=(its++its2).toArray:=by simp
 rw[ea]
 exact⟨.ref _,_,I.lnew (t':=s.toks) (r.append r2) (by rw[OW];omega),rfl,q _ I.fresh⟩
end
section
variable{prog:Oh}{w:Ot}{A:OJ}{E:N8->Oa->Prop}{s:Oa}
set_option maxRecDepth 100000 in
end
section
variable{X:Cx}
end
end L2
namespace Att
open PySem PySem.W PySem.Calls PyProof.Rows
theorem gX{P:Params}{h:OC}:∀(ns:List Int) (vs:List N8),WellAll P h vs (ns.map WData.int)->IntsAre vs ns:=by
 intro ns
 induction ns with
 | nil =>
  intro vs w
  rw[List.map_nil] at w
  cases w
  exact .nil
 | cons n ns ih =>
  intro vs w
  rw[Pb] at w
  cases w with
  | cons a b =>
   cases a
   exact .cons _ _ (ih _ b)
theorem DO{l:OpenLaw}{n:Nat}(hn:l.most=some n){P:Params}{h:OC}{args:List WData}{vals:List N8}
  (hpre:l.row.toRowW.claim.pre args=true) (hwl:WellAll P h vals args) :
  ∃a vs ns,vals=[Value.ref a]/\args=[WData.list (ns.map WData.int)]/\h.get? a=some {cls:=.type "list",data:=.seq vs.toArray}/\IntsAre vs ns/\ns.length<=n:=by
 have hsh:WShape.hasAll [] args [.list .int]=true:=(pre_splitW hpre).1
 have hc:l.pre.holds [] {args:=args}=true:=(pre_splitW hpre).2
 obtain⟨d,r,rfl,h1,h2⟩:=hasAllW_cons hsh
 obtain rfl:=hasAllW_nil h2
 obtain⟨xs,rfl,h3⟩:=hasW_list h1
 obtain⟨ns,rfl⟩:=items_int h3
 have hlen:ns.length<=n:=by
  unfold OpenLaw.pre at hc
  have h4:(WTm.not (.lt (.lit (.int (n:Int))) (.len (.arg 0)))).holds [] {args:=[.list (ns.map .int)]}=true:=by
   have h4:=(holds_andW hc).1
   rw[hn] at h4
   exact h4
  have h5:=condW_of h4 (w_not (w_lt w_lit (w_len_list (w_arg rfl))))
  rw[OK] at h5
  refine Nat.le_of_not_lt fun q=>?_
  have q':(n:Int)<((ns.length:Nat):Int):=by omega
  first
   | (rw[Pa q'] at h5;exact OA h5 (by decide))
   | (simp at h5;omega)
 cases hwl with
 | cons w1 w2 =>
  cases w2
  cases w1 with
  | list ho hall=>exact⟨_,_,ns,rfl,rfl,ho,gX ns _ hall,hlen⟩
theorem Ee(l:OpenLaw)(args:List WData):l.row.toRowW.claim.post args (.bool true) args=true:=
 postW_of (r:=l.row.toRowW) (X:=(true==true))
  (show WShape.has [] (.bool true) .bool=true by first | rfl | decide | simp[WShape.has,WShape.arms,WShape.armsAll])
  (show(WTm.eq .res (.lit (.bool true))).value [] {args:=args,res:=some (.bool true),after:=args}=some (.bool (true==true)) from w_eq_bool (w_res rfl) w_lit) rfl
theorem attach_call {l:OpenLaw} {n:Nat} {q:Oh} {loose:List Str} {XP:(Str->N7 N8)->OC->Prop} {YP:Ot->OC->Prop} {d:DefRec}
    (hn:l.most=some n) (hdf:d.params.defaults=[])
    (call:∀(w:Ot) (s₀ s₁:Oa) (mg mb:Str->N7 N8) (fa:N9) (o:Obj) (pm cd doc:N8) (a:N9) (vs:List N8) (ns:List Int),
      Ground q loose [] XP w s₀ mg mb s₁.heap->YP w s₁.heap ->
      s₁.heap.get? fa=some o->o.data=.func (docDef d.name d.params d.body d.scope pm cd doc)->s₁.heap.CodeRec cd d.name->mg d.name=some (.ref fa) ->
      s₁.heap.get? a=some {cls:=.type "list",data:=.seq vs.toArray}->IntsAre vs ns->ns.length<=n->s₁.gens=#[] ->
      codeAny (model l.prog w) callerA (.call (.ref fa) ⟨[.ref a],[]⟩) (fun r s'=>r=.ok (.ret (.bool true))/\OldK s₁.heap s'.heap/\s'.os=s₁.os/\AllBare s'.gens) s₁) :
    WalkO q loose XP YP l.row.toRowW d [] (fun f vs=>PySem.call f vs):=by
  intro w s₀ s₁ mg mb G Y fa o pm cd doc dV kV ho hd hcd hD hmg hg args vals as hpre hlay hrd hwl hlo
  obtain rfl:dV=.none:=Dflts.none hD hdf
  obtain rfl:kV=.none:=Dflts.noKw hD
  obtain⟨a,vs,ns,rfl,rfl,hobj,hints,hlen⟩:=DO hn hpre hwl
  refine enter_call (codeAny_mono (call w s₀ s₁ mg mb fa o pm cd doc a vs ns G Y ho (fd_plain hd) hcd hmg hobj hints hlen hg) fun r s' hq=>?_)
  obtain⟨rfl,h2,h3,h4⟩:=hq
  exact⟨.inl ⟨.bool true,.bool true,[],rfl,fun _=>rfl,.bool true,Ee l _,fun _=>⟨List.Pairwise.nil,fun _ hm=>(nomatch hm)⟩⟩,h2,h3,h4⟩
section
variable{prog:Oh}{w:Ot}{A:OJ}{E:N8->Oa->Prop}{s:Oa}{K:Frag}
def ledger(h:OC)(L d:N9):List (N9×Obj):=(List.range h.objs.size).filterMap fun a=>if a=L\/a=d then none else (h.get? a).map fun o=>(a,o)
end
end Att
namespace L2
open PySem PySem.Spec PyProof.Rows
theorem vals_ints:∀{vs:List N8} {ns:List Int},IntsAre vs ns->l4 (ns.map V.int) vs
 | _,_,.nil=>.nil
 | _,_,.cons n t h=>.cons ⟨t,rfl⟩ (vals_ints h)
def IE(H:Hp):Prop:=∀b,H b=none\/∃o xs,H b=some (.frz o (.lst xs))
theorem EF{P:Oh}{w:Ot}{K:N_}{mg mb:Str->N7 N8}{CX:AK}{k:Nat}{fa a:N9}{fd:OV}{x:Str}{sp:Sp}{s₁:Oa}{vs:List N8}{ns:List Int}
  (KX:K.In s₁.heap) (hns:s₁.heap.Ns mainGlobals mg) (hb:s₁.heap.Ns builtinsNs mb) (hbb:∀x:Str,x ≠ "__name__" -> mb x=bootBuiltins x) (hlim:s₁.heap.NoLimit) (hg:s₁.gens=#[])
  (ha:s₁.heap.get? a=some {cls:=.type "list",data:=.seq vs.toArray}) (hi:IntsAre vs ns) (hl:ns.length<=sizeLine) (hr:rO k callerA)
  (F:∀base:OC,K.In base->base.Ns mainGlobals mg->k6 P w K mg base CX k fa fd [x] sp) (hbind:∀(s:Oa) (u:N8),BindsTo s fd ⟨[u],[]⟩ [(x,u)])
  (hsp:∀H:Hp,IE H->uJ K H a (ns.map V.int)->sp [.ref a] H (fun v _=>v=.bl true) fun _ _ _=>False)
  (hCX:∀H e s',CX [] H s₁ (fun _ _ _=>False) e s'->False) :
  codeAny (model P w) callerA (.call (.ref fa) ⟨[.ref a],[]⟩) (fun r s'=>r=.ok (.ret (.bool true))/\OldK s₁.heap s'.heap/\s'.os=s₁.os/\AllBare s'.gens) s₁:=by
 have rv:=vals_ints hi
 have lenV:=hi.length
 have core:∀H:Hp,IE H->uJ K H a (ns.map V.int)->wF P w H s₁.heap->(∀b,H b≠none->b=a)->(H a≠none->K.lookup a=none) ->
   codeAny (model P w) callerA (.call (.ref fa) ⟨[.ref a],[]⟩) (fun r s'=>r=.ok (.ret (.bool true))/\OldK s₁.heap s'.heap/\s'.os=s₁.os/\AllBare s'.gens) s₁:=by
  intro H hO hS hok hA hK
  have base_of:∀{b:N9} {o:Obj},s₁.heap.get? b=some o->H b=none->(w8 s₁.heap H).get? b=some o:=fun e n=>Bu e n
  have noA:∀{b:N9} {o:Obj} {es:Array DictEntry} {ep:Nat},s₁.heap.get? b=some o->o.data=.dict es ep->H b=none:=fun {b o es ep} e d=>by
   cases q:H b with
   | none=>rfl
   | some u =>
    have e':b=a:=hA b (by rw[q];simp)
    subst e'
    rw[ha] at e;cases e
    have d':Data.seq vs.toArray _=Data.dict es ep:=d
    cases d'
  have nsK:∀{b:N9} {m:Str->N7 N8},s₁.heap.Ns b m->(w8 s₁.heap H).Ns b m:=fun {b m} ⟨o,es,ep,e,d,r⟩=>⟨o,es,ep,base_of e (noA e d),d,r⟩
  have hKb:K.In (w8 s₁.heap H):=fun b o e=>base_of (KX b o e) (by
   cases q:H b with
   | none=>rfl
   | some u =>
    have e':b=a:=hA b (by rw[q];simp)
    subst e'
    rw[hK (by rw[q];simp)] at e;cases e)
  have hM:Mod K mg (w8 s₁.heap H):=⟨hKb,nsK hns,⟨mb,nsK hb,hbb⟩,let ⟨mc,h1,h2⟩:=hlim;⟨mc,nsK h1,h2⟩⟩
  have e0:xW P w K mg (w8 s₁.heap H) callerA [] s₁ H:=⟨rfl,hM,fun b o e=>DD e,Nat.le_of_eq (Ag _ _),trivial,fun b hb=>OA (show b∈([]:List N9) from hb) (by simp),hok,.of_eq hg⟩
  refine codeAny_mono ((F _ hKb (nsK hns)).run callerA [] s₁ H ⟨[.ref a],[]⟩ [.ref a] [.ref a] _ _ hr e0 (hbind s₁ (.ref a)) (.cons rfl .nil) (hsp H hO hS)) fun r s' h=>?_
  cases r with
  | error e=>exact(hCX H e s' h).elim
  | ok fl =>
   cases fl with
   | next=>exact False.elim h
   | brk=>exact False.elim h
   | cont=>exact False.elim h
   | ret u =>
    obtain⟨v,H',os,bare,un,hok',r',q⟩:=h
    have q':v=.bl true:=q
    subst q'
    obtain rfl:u=Value.bool true:=r'
    refine⟨rfl,OldK.of_keep fun b o e=>?_,os,bare⟩
    cases q:H b with
    | none=>exact un.keep b o e q (by intro z;exact OA (show b∈([]:List N9) from z) (by simp)) (by simp)
    | some u =>
     rcases hO b with z | ⟨ob,xs,z⟩
     ·rw[q] at z;cases z
     ·have z2:=un.frzs b ob _ (fun y q=>by cases q) z
      obtain⟨e1,_⟩:=hok b _ z
      obtain⟨e2,_⟩:=hok' b _ z2
      rw[e] at e1;cases e1
      exact e2
 cases hk:K.lookup a with
 | some o =>
  have e:=KX a o hk
  rw[ha] at e
  cases e
  refine core (fun _=>none) (fun _=>.inl rfl) (.inr ⟨_,vs.toArray,_,hk,rfl,rfl,rfl,by rw[On,lenV];exact hl,by simpa using rv⟩) (fun b u z=>by have z':(none:N7 HO)=some u:=z;cases z') (fun b z=>OA rfl z) fun z=>OA rfl z
 | none =>
  refine core (fun b=>if b=a then some (.frz {cls:=.type "list",data:=.seq vs.toArray} (.lst (ns.map V.int))) else none) (fun b=>?_) (.inl (.inr ⟨{cls:=.type "list",data:=.seq vs.toArray},Of rfl⟩)) (fun b u z=>?_) (fun b z=>?_) fun _=>hk
  ·by_cases hb:b=a
   ·exact .inr ⟨_,_,Of hb⟩
   ·exact .inl (Ov hb)
  ·by_cases hb:b=a
   ·have z':=(Of hb).symm.trans z
    cases z'
    subst hb
    exact⟨ha,by rw[OK];exact hl,vs,_,rv,ha⟩
   ·have z':=(Ov hb).symm.trans z
    cases z'
  ·by_cases hb:b=a
   ·exact hb
   ·exact OA (Ov hb) z
end L2
namespace L2
open PySem PySem.Spec PyProof.Rows
abbrev KOf{K:N_}{h:OC}(_:K.In h):N_:=K
theorem walk_of {l:PySem.W.OpenLaw} {n k:Nat} {q:Oh} {loose:List Str} {XP:(Str->N7 N8)->OC->Prop} {YP:Ot->OC->Prop} {d:DefRec} {K:Params->N_} {CX:Ot->AK} {sp:Ot->Sp} {x:Str}
    (hn:l.most=some n) (hn2:n<=sizeLine) (hdf:d.params.defaults=[]) (hr:rO k callerA)
    (hY:∀(w:Ot) (h:OC),YP w h->(K w.params).In h)
    (F:∀(w:Ot) (mg:Str->N7 N8) (fa:N9) (h:OC),(K w.params).In h->h.Ns mainGlobals mg->mg d.name=some (.ref fa) ->
      ∃fd:OV,(∀(s:Oa) (u:N8),BindsTo s fd ⟨[u],[]⟩ [(x,u)]) /\
        ∀base:OC,(K w.params).In base->base.Ns mainGlobals mg->k6 l.prog w (K w.params) mg base (CX w) k fa fd [x] (sp w))
    (hsp:∀(w:Ot) (H:Hp) (a:N9) (ns:List Int),ns.length<=n->IE H->uJ (K w.params) H a (ns.map V.int)->sp w [.ref a] H (fun v _=>v=.bl true) fun _ _ _=>False)
    (hCX:∀(w:Ot) (H:Hp) (s:Oa) (e:N8) (s':Oa),CX w [] H s (fun _ _ _=>False) e s'->False) :
    PySem.W.WalkO q loose XP YP l.row.toRowW d [] (fun f vs=>PySem.call f vs):=by
  refine Att.attach_call hn hdf fun w s₀ s₁ mg mb fa o pm cd doc a vs ns G Y ho hd hcd hmg hobj hints hlen hg=>?_
  have KX:=hY w _ Y
  obtain⟨fd,hb,hF⟩:=F w mg fa _ KX G.T.g hmg
  exact EF KX G.T.g G.T.b G.T.builtins G.T.nolimit hg hobj hints (OH hlen hn2) hr hF hb (fun H hO hS=>hsp w H a ns hlen hO hS) fun H e s'=>hCX w H s₁ e s'
end L2
/- THE LAST THEOREM (shape;LID,My.* are yours):
  My.Adr: a structure of the addresses that your layer names (classes,functions);My.Txt K t: a structure (Prop) of the equations over K;
  My.txt_mk:{K} {implicit addresses ..} (e1:nsIn K mainGlobals "law" = some (some (.ref f))) (e2:K.lookup f=some ⟨oc,od,.func (fnOf "law" "law" params body scope dV kV doc pm an cdv ct),sl⟩) (e3:codeIn K cdv "law" = true) ..:∃t,My.Txt K t
set_option maxRecDepth 100000 in
set_option maxHeartbeats 0 in
theorem PySem.Challenge.cw_LID_holds : PySem.Challenge.rw_LID.Holds := by
 w_on;o_law;k_head;(case hw=>w_witness2)
 k_fill
 refine L2.walk_of (l:=PySem.Challenge.rw_LID) (n:=63) (k:=40) (x:="script") (CX:=fun w=>..) (sp:=fun _=>My.sp_law) rfl (by decide) rfl ⟨rfl,by decide,by decide⟩ (fun w h Y=>PySem.W.kIn_of Y) ?F ?S ?C
 case F =>
  intro w mg fa h KX G hmg
  have T:∃t,My.Txt (L2.KOf KX) t:=by
   dsimp only [L2.KOf]                          -- K must stand as «<heap const> w.params» for k_is
   refine' My.txt_mk ?e1 ?e2 ?e3 ..
   (case e1=>PySem.W.k_is)                    -- in the order: a name->its address->its object->its parts
   (case e2=>PySem.W.k_is)
   ..
  obtain⟨t,T⟩:=T
  have e0:=hmg.symm.trans (Oq KX G T.law)
  cases e0                                       -- fa is the law's own address
  exact⟨_,fun s u=>.of_eq rfl,fun base kb nb=>My.law_fn T kb nb⟩     -- if «.of_eq rfl» comes too early: refine' ⟨_,?b,fun base kb nb=>My.law_fn T kb nb⟩;exact fun s u=>.of_eq rfl
 case S=>exact fun w H a ns hl hO hS=>..
 case C=>exact ..
(the tactic k_is has no namespace: write k_is) -/
namespace L2
open PySem PySem.Spec PyProof.Rows
def inClass(s:OE)(j:Nat):OE:=match s with
 | .ClassDef _ _ _ body _ _ _ _ _ _ _=>body.getD j (.Pass ⟨0,0,0,0⟩)
 | _=>.Pass ⟨0,0,0,0⟩
def sR(s:OE):Arguments:=match s with
 | .FunctionDef _ a _ _ _ _ _ _ _ _=>a
 | _=>{posonlyargs:=[],args:=[],vararg:=none,kwonlyargs:=[],kw_defaults:=[],kwarg:=none,defaults:=[]}
def rS(s:OE):List OE:=match s with
 | .FunctionDef _ _ b _ _ _ _ _ _ _=>b
 | _=>[]
def e9(s:OE):Scope:=match s with
 | .FunctionDef _ _ _ _ _ _ sc _ _ _=>sc
 | _=>{kind:=.function,names:=[],isGenerator:=false,isCoroutine:=false}
abbrev rV:AK:=fun _ _ _ _ _ _=>False
abbrev E0:XK:=fun _ _ _=>False
theorem xE{X:Cx}:vT rV X E0:=fun _ _ _ _ _ _ _ h=>h.elim
structure sr (K:N_) (x qual:Str) (st:OE) (f:N9) (fd:OV):Prop where
 ex:∃(oc:N8) (od:N7 N9) (kV doc pm:N8) (an:N7 N9) (cdv ct:N8) (osl:Array (N7 N8)),
  fd=PySem.W.fnOf x qual (sR st) (rS st) (e9 st) .none kV doc pm an cdv ct/\K.lookup f=some ⟨oc,od,.func fd,osl⟩/\PySem.W.codeIn K cdv qual=true
 kp:PySem.W.keepIn K (.ref f)=true
section
variable{P:Oh}{w:Ot}{K:N_}{mg:Str->N7 N8}{base:OC}
theorem sr.ok {x qual:Str} {st:OE} {f:N9} {fd:OV} {N ps:List Str} {k:Nat} {sp:Sp} (F:sr K x qual st f fd) (S:i4 N ps (e9 st)) (len:∀ vs H Q E,sp vs H Q E->vs.length=ps.length)
    (hbody:∀(cdv:N8) (A:OJ) (outer:List Env) (s:Oa) (H:Hp) (vs:List V) (Q:VK) (E:XK),rO k (A.deeper (envOfC qual (e9 st) s.heap.objs.size f cdv))->sp vs H Q E ->
      ∃t,PSs (uV rV P w K mg base N qual (e9 st) f cdv A outer s H E).nox (rS st) t/\t {nx:=fun _ H'=>Q .non H',rt:=Q} (start N vs) H):k6 P w K mg base rV (k+1) f fd ps sp:=by
  obtain⟨oc,od,kV,doc,pm,an,cdv,ct,osl,rfl,lk,hcd⟩:=F.ex
  refine pk lk hcd S len fun A outer s H vs Q E hr hsp=>?_
  obtain⟨t,h,q⟩:=hbody cdv A outer s H vs Q E hr hsp
  exact⟨t,h.nox,q⟩
theorem sr.binds{x qual:Str}{st:OE}{f:N9}{fd:OV}{ps:List Str}(F:sr K x qual st f fd)
  (h:∀(kV doc pm:N8) (an:N7 N9) (cdv ct:N8) (us:List N8),us.length=ps.length->bindArgs (PySem.W.fnOf x qual (sR st) (rS st) (e9 st) .none kV doc pm an cdv ct) ⟨us,[]⟩=pure (ps.zip us)):Binds K fd ps []:=by
 obtain⟨oc,od,kV,doc,pm,an,cdv,ct,osl,rfl,lk,hcd⟩:=F.ex
 exact .all (h kV doc pm an cdv ct)
theorem mt{x qual:Str}{st:OE}{f:N9}{oc:N8}{od an:N7 N9}{osl:Array (N7 N8)}{kV doc pm cdv ct:N8}(l:K.lookup f=some ⟨oc,od,.func (PySem.W.fnOf x qual (sR st) (rS st) (e9 st) .none kV doc pm an cdv ct),osl⟩)
  (c:PySem.W.codeIn K cdv qual=true) (k:PySem.W.keepIn K (.ref f)=true):sr K x qual st f (PySem.W.fnOf x qual (sR st) (rS st) (e9 st) .none kV doc pm an cdv ct):=⟨⟨oc,od,kV,doc,pm,an,cdv,ct,osl,rfl,l,c⟩,k⟩
end
theorem wo{n:Nat}(h:n<=1000):n<sizeLine:=Nat.lt_of_le_of_lt h (by decide)
section
variable{X:Cx}
theorem pv(i:Nat){x:Str}{pos:Pos}(hN:X.N[i]?=some x:=by rfl)(hv:BS X.env.scope x:=by first | exact Or.inl rfl | exact Or.inr (Or.inl rfl) | exact Or.inr (Or.inr rfl))(hd:(x==("__debug__" : Str))=false:=by decide)
  (hcd:(x==("__classdict__" : Str))=false:=by decide):PE X (.Name x pos) (Jv i):=jG hN hv hd hcd
end
def i9(H H':Hp):Prop:=∀b o,H b=some o->H' b=some o
theorem i9.refl(H:Hp):i9 H H:=fun _ _ h=>h
theorem i9.trans{H H1 H2:Hp}(a:i9 H H1)(b:i9 H1 H2):i9 H H2:=fun c o h=>b c o (a c o h)
theorem i9.free{H H':Hp}(e:i9 H H'){l:N9}(h:H' l=Option.none):H l=Option.none:=by
 cases q:H l with
 | none=>rfl
 | some o =>
  rw[e l o q] at h
  cases h
theorem i9.seq{K:N_}{H H':Hp}{a:N9}{xs:List V}(e:i9 H H')(h:uJ K H a xs):uJ K H' a xs:=by
 rcases h with (h | ⟨o,h⟩) | h
 ·exact .inl (.inl (e _ _ h))
 ·exact .inl (.inr ⟨o,e _ _ h⟩)
 ·exact .inr h
end L2
namespace HW
open PySem
inductive D where
 | non
 | bl (b:Bool)
 | int (i:Int)
 | str (x:Str)
 | tup (xs:List D)
 | lst (xs:List D)
 | fro (xs:List D)
 | obj (k a:Nat) (ks:List Str) (ds:List D)
 | rf (a:Nat)
 deriving Inhabited
abbrev R:=List (N7 D)
abbrev OD:=N7 D
abbrev LD:=List D
abbrev oS(x:String):Str:=Str.ofString x
@[simp] abbrev kI (n:Int):R->OD:=fun _=>some (.int n)
@[simp] abbrev kS (x:String):R->OD:=fun _=>some (.str (oS x))
inductive Out where
 | nx (ρ:R)
 | rt (d:D)
 | bk (ρ:R)
 | ct (ρ:R)
@[simp] noncomputable def Iz:D->N7 Bool
 | .non=>some false
 | .bl b=>some b
 | .int i=>some (i != 0)
 | .str x=>if x.length<=sizeLine then some ((x.length:Int) != 0) else none
 | .tup xs=>some (!xs.isEmpty)
 | .lst xs=>some (!xs.isEmpty)
 | .fro xs=>some (!xs.isEmpty)
 | .obj ..=>none
 | .rf ..=>none
noncomputable def bI(b:Bool):Int:=if b then 1 else 0
@[simp] noncomputable def nI:D->N7 Int
 | .int i=>some i
 | _=>none
@[simp] def tI:D->N7 LD
 | .tup xs=>some xs
 | _=>none
@[simp] def lI:D->N7 LD
 | .lst xs=>some xs
 | _=>none
@[simp] noncomputable def sI:D->N7 Str
 | .str x=>some x
 | _=>none
@[simp] def bO:D->N7 Bool
 | .bl b=>some b
 | _=>none
@[simp] def rL (x y:D):OD:=match x with
 | .int i=>(nI y).map fun j=>.int (i+j)
 | .tup xs=>(tI y).bind fun ys=>if xs.length+ys.length<=sizeLine then some (.tup (xs++ys)) else none
 | .lst xs=>(lI y).bind fun ys=>if xs.length+ys.length<=sizeLine then some (.lst (xs++ys)) else none
 | .str x=>(sI y).bind fun y=>if x.length+y.length<=sizeLine then some (.str (x++y)) else none
 | _=>none
@[simp] def uW (x y:D):OD:=(nI x).bind fun i=>(nI y).map fun j=>.int (i - j)
def sv(i j:Int):Bool:=(decide (-(2 ^ 64)<i)&&decide (i<2 ^ 64))||(decide (-(2 ^ 64)<j)&&decide (j<2 ^ 64))
@[simp] def v3 (x y:D):OD:=(nI x).bind fun i=>(nI y).bind fun j=>if sv i j then some (.int (i*j)) else none
@[simp] def uq (x y:D):OD:=(nI x).bind fun i=>(nI y).bind fun j=>if 0<j/\j<1073741824 then some (.int (i / j)) else none
@[simp] def r_ (x y:D):OD:=(nI x).bind fun i=>(nI y).bind fun j=>if 0<j then some (.int (i%j)) else none
@[simp] def Lb (x:D):OD:=(nI x).map fun i=>.int (-i)
@[simp] def K2 (x y:D):N7 Bool:=(nI x).bind fun i=>(nI y).map fun j=>decide (i<j)
@[simp] def JV (x y:D):N7 Bool:=(nI x).bind fun i=>(nI y).map fun j=>decide (i<=j)
@[simp] def Cq (x y:D):N7 Bool:=(nI x).bind fun i=>(nI y).map fun j=>decide (j<i)
@[simp] def J4 (x y:D):N7 Bool:=(nI x).bind fun i=>(nI y).map fun j=>decide (j<=i)
@[simp] def Fo (x y:D):N7 Bool:=match x with
 | .int i=>(nI y).map fun j=>i==j
 | .str a=>(sI y).map fun b=>a==b
 | .bl a=>(bO y).map fun b=>a==b
 | _=>none
@[simp] def xK:D->D->N7 Bool:=Fo
@[simp] def Ik (x y:D):N7 Bool:=(Fo x y).map (!·)
@[simp] noncomputable def GF:D->Bool
 | .non=>true
 | _=>false
@[simp] def x4 (x y:D):N7 Bool:=if GF y then some (GF x) else none
@[simp] def vF (x y:D):N7 Bool:=(x4 x y).map (!·)
def flat:D->Bool
 | .non=>true
 | .bl _=>true
 | .int _=>true
 | .str _=>true
 | _=>false
def LL:D->D->Bool
 | .non,.non=>true
 | .bl a,.bl b=>a==b
 | .bl a,.int b=>bI a==b
 | .int a,.bl b=>a==bI b
 | .int a,.int b=>a==b
 | .str a,.str b=>a==b
 | _,_=>false
@[simp] def FM:D->N7 LD
 | .tup xs=>some xs
 | .lst xs=>some xs
 | .fro xs=>some xs
 | _=>none
mutual
def HN:D->D->Bool
 | .non,.non=>true
 | .bl a,.bl b=>a==b
 | .bl a,.int b=>bI a==b
 | .int a,.bl b=>a==bI b
 | .int a,.int b=>a==b
 | .str a,.str b=>a==b
 | .tup xs,.tup ys=>zH xs ys
 | .lst xs,.lst ys=>zH xs ys
 | .lst xs,.fro ys=>zH xs ys
 | .fro xs,.lst ys=>zH xs ys
 | .fro xs,.fro ys=>zH xs ys
 | _,_=>false
def zH:LD->LD->Bool
 | [],[]=>true
 | x::xs,y::ys=>HN x y&&zH xs ys
 | _,_=>false
end
mutual
def uB:D->Nat
 | .tup xs=>uP xs+1
 | .lst xs=>uP xs+1
 | .fro xs=>uP xs+1
 | _=>0
def uP:LD->Nat
 | []=>0
 | x::xs=>max (uB x) (uP xs)
end
mutual
def rG:D->Bool
 | .str x=>x.cps.all (·<0x110000)
 | .tup xs=>tw xs
 | .lst xs=>tw xs
 | .fro xs=>tw xs
 | .obj ..=>false
 | .rf ..=>false
 | _=>true
def tw:LD->Bool
 | []=>true
 | x::xs=>rG x&&tw xs
end
mutual
def sk:D->Bool
 | .tup xs=>n6 xs
 | .lst xs=>n6 xs
 | .fro xs=>n6 xs
 | .obj ..=>false
 | .rf ..=>false
 | _=>true
def n6:LD->Bool
 | []=>true
 | x::xs=>sk x&&n6 xs
end
mutual
theorem bE:∀{d:D},rG d=true->sk d=true
 | .non,_=>rfl
 | .bl _,_=>rfl
 | .int _,_=>rfl
 | .str _,_=>rfl
 | .tup xs,h=>ge (xs:=xs) h
 | .lst xs,h=>ge (xs:=xs) h
 | .fro xs,h=>ge (xs:=xs) h
 | .obj ..,h=>by cases h
 | .rf ..,h=>by cases h
theorem ge:∀{xs:LD},tw xs=true->n6 xs=true
 | [],_=>rfl
 | x::xs,h=>by
  have h':(rG x&&tw xs)=true:=h
  rw[Oe] at h'
  show(sk x&&n6 xs)=true
  rw[bE h'.1,ge h'.2];rfl
end
def xZ(x y:D):N7 Bool:=if uB x<=100/\rG x=true/\rG y=true then some (HN x y) else none
def vL(x y:D):N7 Bool:=(xZ x y).map (!·)
noncomputable def KN(n:Nat)(i:Int):N7 Nat:=if 0<=i then (if i<n then some i.toNat else none) else if -(n:Int)<=i then some (i+n).toNat else none
def Fk(xs:LD)(i:Int):OD:=(KN xs.length i).bind fun j=>xs[j]?
@[simp] def k8:D->D->OD
 | .tup xs,.int i=>Fk xs i
 | .lst xs,.int i=>Fk xs i
 | .fro xs,.int i=>Fk xs i
 | .str x,.int i=>if x.length<=sizeLine then ((KN x.length i).bind fun j=>x.cps.toList[j]?).map fun c=>.str ⟨#[c]⟩ else none
 | _,_=>none
noncomputable def G5(n d:Nat):N7 Int->Nat
 | none=>d
 | some v=>if v<0 then (v+(n:Int)).toNat else min v.toNat n
def cutD(xs:LD)(lo hi:N7 Int):LD:=(xs.drop (G5 xs.length 0 lo)).take (G5 xs.length xs.length hi - G5 xs.length 0 lo)
@[simp] def Nb:D->N7 Int->N7 Int->OD
 | .tup xs,lo,hi=>some (.tup (cutD xs lo hi))
 | .lst xs,lo,hi=>some (.lst (cutD xs lo hi))
 | _,_,_=>none
@[simp] def NL:D->N7 (N7 Int)
 | .int i=>some (some i)
 | _=>none
@[simp] noncomputable def J7:D->String
 | .non=>"NoneType"
 | .bl _=>"bool"
 | .int _=>"int"
 | .str _=>"str"
 | .tup _=>"tuple"
 | .lst _=>"list"
 | .fro _=>"list"
 | .obj ..=>"object"
 | .rf ..=>"object"
@[simp] def vk:D->Bool
 | .obj ..=>true
 | _=>false
@[simp] def M8 (d:D) (n:String):Bool:=decide (J7 d=n)||(decide (J7 d = "bool")&&decide (n = "int"))
@[simp] def wB:LD->OD
 | [d]=>(FM d).map fun xs=>.int xs.length
 | _=>none
@[simp] def Na:LD->OD
 | [.tup xs]=>some (.lst xs)
 | [.lst xs]=>some (.lst xs)
 | _=>none
@[simp] def E6:LD->OD
 | [.tup xs]=>some (.tup xs)
 | [.lst xs]=>some (.tup xs)
 | _=>none
@[simp] def CM:LD->OD
 | [.int i]=>if i.natAbs.log2<1920 then some (.str (toString i)) else none
 | _=>none
@[simp] def CL:LD->OD
 | [.int i,.int j]=>some (.int (if j > i then j else i))
 | _=>none
@[simp] def Bt:LD->OD
 | [.lst []]=>some .non
 | [.lst [.int a]]=>some (.int a)
 | [.lst [.int a,.int b]]=>some (.int (if b > a then b else a))
 | _=>none
noncomputable def De(x:Str):N7 Str:=if x=oS "a" then some (oS "A") else if x=oS "b" then some (oS "B") else if x=oS "c" then some (oS "C") else none
def ML:D->OD
 | .str x=>(De x).map .str
 | _=>none
def Fx(ws:List Str):D->OD
 | .str x=>(ws.findIdx? (·==x)).map fun (j:Nat)=>.int (j:Int)
 | _=>none
def bools:LD->N7 (List Bool)
 | []=>some []
 | .bl b::r=>(bools r).map (b::·)
 | _=>none
noncomputable def Au(st:D->R->N7 R)(body:R->N7 Out):LD->R->N7 Out
 | [],ρ=>some (.nx ρ)
 | d::ds,ρ=>(st d ρ).bind fun ρ1=>(body ρ1).bind fun o=>match o with
  | .nx ρ2=>Au st body ds ρ2
  | .ct ρ2=>Au st body ds ρ2
  | .bk ρ2=>some (.nx ρ2)
  | .rt r=>some (.rt r)
noncomputable def xH(st:D->R->N7 R)(c:R->N7 Bool)(e:R->OD):LD->R->N7 LD
 | [],_=>some []
 | d::ds,ρ=>(st d ρ).bind fun ρ1=>(c ρ1).bind fun b=>(if b then (e ρ1).map some else some none).bind fun x =>
   (xH st c e ds ρ).map fun r=>match x with
    | some y=>y::r
    | none=>r
@[simp] def m6 (f g:R->N7 Out):R->N7 Out:=fun ρ=>(f ρ).bind fun o=>match o with
 | .nx ρ2=>g ρ2
 | o=>some o
@[simp] noncomputable def g4 (i:Nat) (ρ:R):OD:=ρ.getD i none
@[simp] noncomputable def setAt (i:Nat) (d:D) (ρ:R):N7 R:=if i<ρ.length then some (ρ.set i (some d)) else none
@[simp] def xM (c:R->N7 Bool) (f g:R->N7 Out):R->N7 Out:=fun ρ=>(c ρ).bind fun b=>if b then f ρ else g ρ
@[simp] def AN (f g:R->OD):R->OD:=fun ρ=>(f ρ).bind fun x=>match x with
 | .bl true=>g ρ
 | .bl false=>some (.bl false)
 | _=>none
@[simp] def Cc (f:R->OD):R->OD:=fun ρ=>(f ρ).bind fun x=>match x with
 | .bl b=>some (.bl !b)
 | _=>none
@[simp] def Ec (f g:R->N7 Bool):R->N7 Bool:=fun ρ=>(f ρ).bind fun b=>if b then g ρ else some false
@[simp] def BW (f g:R->N7 Bool):R->N7 Bool:=fun ρ=>(f ρ).bind fun b=>if b then some true else g ρ
@[simp] def Cw (f:R->N7 Bool):R->N7 Bool:=fun ρ=>(f ρ).map (!·)
@[simp] def Ba (c:R->N7 Bool) (f g:R->OD):R->OD:=fun ρ=>(c ρ).bind fun b=>if b then f ρ else g ρ
@[simp] def i6 (F:D->D->OD) (f g:R->OD):R->OD:=fun ρ=>(f ρ).bind fun x=>(g ρ).bind fun y=>F x y
@[simp] def vC (F:D->OD) (f:R->OD):R->OD:=fun ρ=>(f ρ).bind F
@[simp] def l7 (F:D->D->N7 Bool) (f g:R->OD):R->N7 Bool:=fun ρ=>(f ρ).bind fun x=>(g ρ).bind fun y=>F x y
@[simp] def Bm (f:R->N7 Bool):R->OD:=fun ρ=>(f ρ).map .bl
@[simp] def vK (f:R->OD):R->N7 Bool:=fun ρ=>(f ρ).bind Iz
@[simp] def g5:R->N7 LD:=fun _=>some []
@[simp] def e8 (f:R->OD) (g:R->N7 LD):R->N7 LD:=fun ρ=>(f ρ).bind fun d=>(g ρ).map fun ds=>d::ds
@[simp] def h9 (F:LD->OD) (g:R->N7 LD):R->OD:=fun ρ=>(g ρ).bind F
@[simp] def rM (g:R->N7 LD):R->OD:=fun ρ=>(g ρ).map .tup
@[simp] def GY (g:R->N7 LD):R->OD:=fun ρ=>(g ρ).map .lst
@[simp] def MV:R->N7 (N7 Int):=fun _=>some none
@[simp] def aP (f:R->OD):R->N7 (N7 Int):=fun ρ=>(f ρ).bind NL
@[simp] def K7 (f:R->OD) (l h:R->N7 (N7 Int)):R->OD:=fun ρ=>(f ρ).bind fun x=>(l ρ).bind fun a=>(h ρ).bind fun b=>Nb x a b
@[simp] def l6 (f:R->OD):R->N7 Out:=fun ρ=>(f ρ).map .rt
@[simp] def m8 (f:R->OD) (st:D->R->N7 R):R->N7 Out:=fun ρ=>(f ρ).bind fun d=>(st d ρ).map .nx
@[simp] def sC:R->N7 Out:=fun ρ=>some (.nx ρ)
@[simp] def Bb (it:R->N7 LD) (st:D->R->N7 R) (body:R->N7 Out):R->N7 Out:=fun ρ=>(it ρ).bind fun ds=>Au st body ds ρ
noncomputable def chars(x:Str):LD:=x.cps.toList.map fun c=>.str ⟨#[c]⟩
@[simp] def DC (f:R->OD):R->N7 LD:=fun ρ=>(f ρ).bind fun d=>match d with
 | .tup xs=>some xs
 | .lst xs=>some xs
 | .str x=>if x.cps.all (·<128) then some (chars x) else none
 | _=>none
noncomputable def uZ(a b:Int):LD:=(List.range (b - a).toNat).map fun (k:Nat)=>D.int (a+(k:Int))
@[simp] def vP (f:R->OD):R->N7 LD:=fun ρ=>(f ρ).bind fun d=>match d with
 | .int j=>if -(2 ^ 62)<=j/\j<2 ^ 62 then some (uZ 0 j) else none
 | _=>none
def JN(k:Nat)(it:R->N7 LD)(st:D->R->N7 R)(c:R->N7 Bool)(e:R->OD):R->OD:=fun ρ =>
 (it ρ).bind fun ds=>if ds.length<=sizeLine then (xH st c e ds (List.replicate k none++ρ)).map .lst else none
@[simp] def Ay:R->N7 Bool:=fun _=>some true
@[simp] def yo (n:Nat) (ds:LD):R:=ds.map some++List.replicate (n - ds.length) none
@[simp] def wM:N7 Out->OD
 | some (.rt d)=>some d
 | some (.nx _)=>some .non
 | _=>none
@[simp] def BB (u:R->N7 Out):R->LD->N7 (Out×LD):=fun ρ ds=>(u ρ).map fun o=>(o,ds)
@[simp] def Bd (i:Nat) (f:R->OD):R->LD->N7 (Out×LD):=fun ρ ds=>(f ρ).bind fun d=>if ρ.length=i/\ds.length<sizeLine then some (.nx ρ,ds++[d]) else none
@[simp] def zN:R->LD->N7 (Out×LD):=fun ρ ds=>some (.nx ρ,ds)
@[simp] def HI (c:R->N7 Bool) (p q:R->LD->N7 (Out×LD)):R->LD->N7 (Out×LD):=fun ρ ds=>(c ρ).bind fun b=>if b then p ρ ds else q ρ ds
@[simp] def Jj (i:Nat) (F:R->N7 LD) (q:R->LD->N7 Out):R->N7 Out:=fun ρ=>(F ρ).bind fun ds=>if ρ.length=i+1 then q (ρ.take i) ds else none
@[simp] def wK (p:R->LD->N7 (Out×LD)) (q:R->LD->N7 Out):R->LD->N7 Out:=fun ρ ds=>(p ρ ds).bind fun r=>match r with
 | (.nx ρ2,ds2)=>q ρ2 ds2
 | (.rt d,_)=>some (.rt d)
 | _=>none
@[simp] def Fz (w:R->N7 Out):R->LD->N7 Out:=fun ρ ds=>w (ρ++[some (.lst ds)])
def J0(i:Nat)(tab:List (Str×(LD->OD)))(f:R->OD)(g:(LD->OD)->R->N7 Out):R->N7 Out:=fun ρ=>(f ρ).bind fun d=>match d with
 | .str z=>(tab.lookup z).bind fun F=>if i<ρ.length then g F (ρ.set i none) else none
 | _=>none
def via(k n:Nat)(g:R->N7 Out)(ds:LD):OD:=if ds.length=k then wM (g (yo n ds)) else none
theorem mV{k n:Nat}{g:R->N7 Out}{ds:LD}{d:D}(h:via k n g ds=some d):ds.length=k:=by
 unfold via at h
 split at h
 ·assumption
 ·cases h
theorem qt{k n:Nat}{g:R->N7 Out}{ds:LD}{d:D}(h:via k n g ds=some d):wM (g (yo n ds))=some d:=by
 unfold via at h
 split at h
 ·exact h
 ·cases h
theorem zV{i j:Int}(h1 : -(2 ^ 64)<j)(h2:j<2 ^ 64):sv i j=true:=by unfold sv;rw[Pa h1,Pa h2];simp
theorem t6{i j:Int}(h1 : -(2 ^ 64)<i)(h2:i<2 ^ 64):sv i j=true:=by unfold sv;rw[Pa h1,Pa h2];simp
theorem zl{st:D->R->N7 R}{body:R->N7 Out}(P:Nat->R->Prop):∀(ds:LD) (k:Nat) (ρ0:R),P k ρ0->(∀i d ρ,ds[i]?=some d->P (k+i) ρ->∃ ρ1 ρ2,st d ρ=some ρ1/\body ρ1=some (.nx ρ2)/\P (k+i+1) ρ2) ->
  ∃ ρ',Au st body ds ρ0=some (.nx ρ')/\P (k+ds.length) ρ'
 | [],k,ρ0,h0,_=>⟨ρ0,rfl,h0⟩
 | d::ds,k,ρ0,h0,hs=>by
  obtain⟨ρ1,ρ2,h1,h2,h3⟩:=hs 0 d ρ0 rfl h0
  obtain⟨ρ',h4,h5⟩:=zl P ds (k+1) ρ2 h3 fun i d' ρ e p=>by
   have q:=hs (i+1) d' ρ (by simpa using e) (by rw[show k+(i+1)=k+1+i by omega];exact p)
   rw[show k+(i+1)+1=k+1+i+1 by omega] at q
   exact q
  refine⟨ρ',?_,?_⟩
  ·simp[Au,h1,h2,h4]
  ·rw[show k+(d::ds).length=k+1+ds.length by simp;omega];exact h5
theorem mD{n:Int}{i:Nat}{d:D}(e:(uZ 0 n)[i]?=some d):d=.int i/\(i:Int)<n:=by
 unfold uZ at e
 rw[O6] at e
 cases q:(List.range (n - 0).toNat)[i]? with
 | none=>rw[q] at e;cases e
 | some k =>
  rw[q] at e
  obtain⟨h1,h2⟩:=OI.mp q
  simp at h1 h2
  subst h2
  have e':D.int (0+(i:Int))=d:=Ow e
  rw[Int.zero_add] at e'
  exact⟨e'.symm,by omega⟩
theorem jU(n:Int):(uZ 0 n).length=n.toNat:=by simp[uZ]
theorem xu{xs:LD}{i:Int}(h0:0<=i)(h1:i<xs.length):∃x,x∈xs/\Fk xs i=some x:=by
 have h2:i.toNat<xs.length:=by omega
 refine⟨xs[i.toNat],List.getElem_mem h2,?_⟩
 unfold Fk KN
 rw[Of h0,Of h1]
 simp[h2]
inductive Fits:D->Prop
 | non:Fits .non
 | bl (b:Bool):Fits (.bl b)
 | int (i:Int):Fits (.int i)
 | str (x:Str):Fits (.str x)
 | tup {xs:LD}:xs.length<=1000->(∀x∈xs,Fits x)->Fits (.tup xs)
end HW
set_option maxHeartbeats 1000000
namespace HW
open PySem PySem.Spec PyProof.Rows L2
def L4(x:Str):It:=⟨fun i _=>i<x.cps.size,fun i H v H'=>H'=H/\∃c,x.cps[i]?=some c/\v=.str ⟨#[c]⟩,fun i _=>x.cps.size<=i⟩
theorem FN{P:Oh}{w:Ot}{K:N_}{tg:OG}(it:N9)(x:Str)(t:Tok):Turn P w K tg (L4 x) [it] it (fun i h=>h.IsStrIter it "str_ascii_iterator" x t i) where
 mem:=by simp
 obj:=fun i h st b hb=>by
  have e:b=it:=by simpa using hb
  subst e
  obtain⟨o,e,c,d⟩:=st
  exact⟨o,e,fun v z=>by rw[d] at z;cases z⟩
 keep:=fun i h h' st k=>by
  obtain⟨o,e,r⟩:=st
  exact⟨o,k it (by simp) o e,r⟩
 item:=by
  intro X hP hw hK hc i pins s σ H E I hf st hg
  subst hP hw hK
  have hg':i<x.cps.size:=hg
  obtain⟨f0,f1,f2,f3,f4,f5⟩:=hf it (by simp)
  refine wpAny_pyNext_ascii_item st (c:=x.cps[i]) (by simp[hg']) fun h' st' sb=>?_
  have I1:L2.Inv X pins σ H {s with heap:=h',toks:=s.toks+1}:=I.turned (t':=s.toks+1) (fun b o hb e=>(sb.2 b hb).trans e) f0 f1 f3 f4 f5
  obtain⟨o,e,c,d⟩:=id st'
  exact⟨_,rfl,DG (s:={s with heap:=h',toks:=s.toks+1}) e c d (by decide) ⟨.str ⟨#[x.cps[i]]⟩,H,I1,⟨_,rfl⟩,⟨rfl,_,by simp[hg'],rfl⟩,st',fun b hb=>(hf b hb).1⟩⟩
 done:=by
  intro X hP hw hK hc i pins s σ H E I hf st hg
  subst hP hw hK
  have hg':x.cps.size<=i:=hg
  obtain⟨f0,f1,f2,f3,f4,f5⟩:=hf it (by simp)
  exact wpAny_pyNext_ascii_end (I.ok.hd hc) st (by simp;omega) fun h' eb=>⟨rfl,I.turned (t':=s.toks) (fun b o hb e=>eb b o hb e) f0 f1 f3 f4 f5⟩
 self:=fun _ _ _ _ _ st h=>wpAny_pyIter_striter_ascii st h
def Hr(H:Hp)(k a:Nat)(ks:List Str)(vs:List V):Prop:=match k with
 | 0=>vs.length<=sizeLine/\∃(its:List N8) (n:Nat),l4 vs its/\H a=some (.frz {cls:=.type "list",data:=.seq its.toArray n} (.own 0))
 | 1=>ks.length=vs.length/\H a=some (.dK ((ks.map Sum.inr).zip vs))
 | C+2=>ks.length=vs.length/\∃dx,H a=some (.ins C dx (ks.zip vs))
theorem Hr.to{H H':Hp}{k a:Nat}{ks:List Str}{vs:List V}(h:Hr H k a ks vs)(e:∀u,H a=some u->(∀ φ,u≠.ext φ)->H' a=some u):Hr H' k a ks vs:=by
 match k,h with
 | 0,⟨z,its,n,r,q⟩=>exact⟨z,its,n,r,e _ q fun φ z=>by cases z⟩
 | 1,⟨z,q⟩=>exact⟨z,e _ q fun φ z=>by cases z⟩
 | C+2,⟨z,dx,q⟩=>exact⟨z,dx,e _ q fun φ z=>by cases z⟩
mutual
def Rep(K:N_)(H:Hp):D->V->Prop
 | .non,v=>v=.non
 | .bl b,v=>v=.bl b
 | .int i,v=>v=.int i
 | .str x,v=>v=.str x
 | .tup ds,v=>∃a xs,v=.ref a/\vg K H a xs/\i8 K H ds xs
 | .lst ds,v=>∃a xs,v=.ref a/\H a=some (.lst xs)/\i8 K H ds xs
 | .fro ds,v=>∃a xs,v=.ref a/\uJ K H a xs/\i8 K H ds xs
 | .obj k a ks ds,v=>∃xs,v=.ref a/\Hr H k a ks xs/\i8 K H ds xs
 | .rf a,v=>v=.ref a
def i8(K:N_)(H:Hp):LD->List V->Prop
 | [],vs=>vs=[]
 | d::ds,vs=>∃v r,vs=v::r/\Rep K H d v/\i8 K H ds r
end
theorem KS{K:N_}{H H':Hp}{a:N9}{xs:List V}(e:i9 H H')(h:vg K H a xs):vg K H' a xs:=by
 rcases h with (h | ⟨o,h⟩) | h
 ·exact .inl (.inl (e _ _ h))
 ·exact .inl (.inr ⟨o,e _ _ h⟩)
 ·exact .inr h
mutual
theorem Rep.mono{K:N_}{H H':Hp}(s:i9 H H'):∀{d:D} {v:V},Rep K H d v->Rep K H' d v
 | .non,_,h=>h
 | .bl _,_,h=>h
 | .int _,_,h=>h
 | .str _,_,h=>h
 | .tup ds,_,h=>by
  obtain⟨a,xs,e,q,r⟩:=h
  exact⟨a,xs,e,KS s q,i8.mono s r⟩
 | .lst ds,_,h=>by
  obtain⟨a,xs,e,q,r⟩:=h
  exact⟨a,xs,e,s _ _ q,i8.mono s r⟩
 | .fro ds,_,h=>by
  obtain⟨a,xs,e,q,r⟩:=h
  exact⟨a,xs,e,s.seq q,i8.mono s r⟩
 | .obj k a ks ds,_,h=>by
  obtain⟨xs,e,q,r⟩:=h
  exact⟨xs,e,q.to fun u z _=>s _ u z,i8.mono s r⟩
 | .rf _,_,h=>h
theorem i8.mono{K:N_}{H H':Hp}(s:i9 H H'):∀{ds:LD} {vs:List V},i8 K H ds vs->i8 K H' ds vs
 | [],_,h=>h
 | d::ds,_,h=>by
  obtain⟨v,r,e,q,t⟩:=h
  exact⟨v,r,e,Rep.mono s q,i8.mono s t⟩
end
section
variable{K:N_}{H:Hp}
theorem i8.length:∀{ds:LD} {vs:List V},i8 K H ds vs->ds.length=vs.length
 | [],_,h=>by cases (show _=[] from h);rfl
 | d::ds,_,h=>by
  obtain⟨v,r,e,q,t⟩:=h
  subst e
  simp[i8.length t]
theorem i8.get:∀{ds:LD} {vs:List V} {i:Nat} {d:D},i8 K H ds vs->ds[i]?=some d->∃v,vs[i]?=some v/\Rep K H d v
 | [],_,_,_,_,e=>by simp at e
 | d::ds,_,0,_,h,e=>by
  obtain⟨v,r,e',q,t⟩:=h
  subst e'
  simp at e
  subst e
  exact⟨v,by simp,q⟩
 | d::ds,_,i+1,_,h,e=>by
  obtain⟨v,r,e',q,t⟩:=h
  subst e'
  obtain⟨u,h1,h2⟩:=i8.get (i:=i) t (by simpa using e)
  exact⟨u,by simpa using h1,h2⟩
theorem i8.append:∀{ds es:LD} {vs us:List V},i8 K H ds vs->i8 K H es us->i8 K H (ds++es) (vs++us)
 | [],_,_,_,h,t=>by cases (show _=[] from h);exact t
 | d::ds,_,_,_,h,t=>by
  obtain⟨v,r,e',q,t'⟩:=h
  subst e'
  exact⟨v,_,rfl,q,i8.append t' t⟩
theorem i8.drop:∀(n:Nat) {ds:LD} {vs:List V},i8 K H ds vs->i8 K H (ds.drop n) (vs.drop n)
 | 0,_,_,h=>by simpa using h
 | n+1,[],_,h=>by cases (show _=[] from h);exact rfl
 | n+1,d::ds,_,h=>by
  obtain⟨v,r,e',q,t'⟩:=h
  subst e'
  simpa using i8.drop n t'
theorem i8.take:∀(n:Nat) {ds:LD} {vs:List V},i8 K H ds vs->i8 K H (ds.take n) (vs.take n)
 | 0,_,_,h=>by simp only[List.take_zero];exact rfl
 | n+1,[],_,h=>by cases (show _=[] from h);exact rfl
 | n+1,d::ds,_,h=>by
  obtain⟨v,r,e',q,t'⟩:=h
  subst e'
  rw[List.take_succ_cons,List.take_succ_cons]
  exact⟨v,_,rfl,q,i8.take n t'⟩
theorem i8.one{d:D}{v:V}(h:Rep K H d v):i8 K H [d] [v]:=⟨v,[],rfl,h,rfl⟩
theorem i8.nil:i8 K H [] []:=rfl
theorem i8.cons{d:D}{v:V}{ds:LD}{vs:List V}(h:Rep K H d v)(t:i8 K H ds vs):i8 K H (d::ds) (v::vs):=⟨v,vs,rfl,h,t⟩
theorem i8.reverse:∀{ds:LD} {vs:List V},i8 K H ds vs->i8 K H ds.reverse vs.reverse
 | [],_,h=>by cases (show _=[] from h);exact rfl
 | d::ds,_,h=>by
  obtain⟨v,r,e',q,t'⟩:=h
  subst e'
  rw[List.reverse_cons,List.reverse_cons]
  exact i8.append (i8.reverse t') (i8.one q)
def se(K:N_)(H:Hp)(ρ:R)(σ:L2.St):Prop:=ρ.length<=σ.length/\∀(i:Nat) (d:D),ρ[i]?=some (some d)->∃v,σ[i]?=some (some v)/\Rep K H d v
theorem se.mono{H':Hp}{ρ:R}{σ:L2.St}(e:se K H ρ σ)(s:i9 H H'):se K H' ρ σ:=⟨e.1,fun i d h=>let ⟨v,a,b⟩:=e.2 i d h;⟨v,a,b.mono s⟩⟩
theorem se.at{ρ:R}{σ:L2.St}(e:se K H ρ σ){i:Nat}{d:D}(h:g4 i ρ=some d):∃v,σ[i]?=some (some v)/\Rep K H d v:=by
 refine e.2 i d ?_
 unfold g4 at h
 rw[OU] at h
 cases q:ρ[i]? with
 | none=>rw[q] at h;cases h
 | some o=>rw[q] at h;cases (show o=some d from h);rfl
theorem se.set{ρ:R}{σ:L2.St}(e:se K H ρ σ){i:Nat}{d:D}{v:V}(r:Rep K H d v):se K H (ρ.set i (some d)) (σ.set i (some v)):=by
 refine⟨by simpa using e.1,fun j c h=>?_⟩
 by_cases hj:i=j
 ·subst hj
  by_cases hi:i<ρ.length
  ·rw[O5 hi] at h
   cases h
   exact⟨v,by rw[O5 (Ol hi e.1)],r⟩
  ·rw[Pt (by simpa using hi)] at h
   cases h
 ·rw[O8 hj] at h ⊢
  exact e.2 j c h
theorem se.front{ρ:R}{σ:L2.St}(e:se K H ρ σ)(k:Nat)(τ:L2.St)(hk:τ.length=k):se K H (List.replicate k none++ρ) (τ++σ):=by
 subst hk
 refine⟨by simpa using e.1,fun i d h=>?_⟩
 by_cases hi:i<τ.length
 ·rw[O4 (by simpa using hi),List.getElem?_replicate] at h
  split at h<;>cases h
 ·rw[OT (by simpa using hi),List.length_replicate] at h
  rw[OT (by simpa using hi)]
  exact e.2 _ d h
end
def sd(K:N_)(H:Hp)(ρ:R)(τ:L2.St)(σ:L2.St):Prop:=se K H ρ σ/\σ.drop ρ.length=τ
theorem se.t{K:N_}{H:Hp}{ρ:R}{σ:L2.St}(e:se K H ρ σ):sd K H ρ (σ.drop ρ.length) σ:=⟨e,rfl⟩
theorem sd.mono{K:N_}{H H':Hp}{ρ:R}{τ σ:L2.St}(e:sd K H ρ τ σ)(s:i9 H H'):sd K H' ρ τ σ:=⟨e.1.mono s,e.2⟩
theorem sd.set{K:N_}{H:Hp}{ρ:R}{τ σ:L2.St}(e:sd K H ρ τ σ){i:Nat}{d:D}{v:V}(hi:i<ρ.length)(r:Rep K H d v):sd K H (ρ.set i (some d)) τ (σ.set i (some v)):=by
 refine⟨e.1.set r,?_⟩
 rw[Pk,List.drop_set_of_lt hi]
 exact e.2
section
variable(K:N_)
def tD(f:R->OD):TE:=fun σ H Q=>∃ ρ d,se K H ρ σ/\f ρ=some d/\∀v H',i9 H H'->Rep K H' d v->Q v H'
def Kz(f:R->N7 Bool):TT:=fun σ H Q=>∃ ρ b,se K H ρ σ/\f ρ=some b/\∀H',i9 H H'->Q b H'
def KF(f:R->N7 LD):TA:=fun σ H Q=>∃ ρ ds,se K H ρ σ/\f ρ=some ds/\∀vs H',i9 H H'->i8 K H' ds vs->Q vs H'
def NX(f:R->N7 (N7 Int)):TO:=fun σ H Q=>∃ ρ o,se K H ρ σ/\f ρ=some o/\∀H',i9 H H'->Q o H'
def fin(E:Ends)(τ:L2.St)(o:Out)(H':Hp):Prop:=
 match o with
 | .nx ρ=>∀ σ,sd K H' ρ τ σ->E.nx σ H'
 | .rt d=>∀v,Rep K H' d v->E.rt v H'
 | .bk ρ=>∀ σ,sd K H' ρ τ σ->E.bk σ H'
 | .ct ρ=>∀ σ,sd K H' ρ τ σ->E.ct σ H'
def HC(f:R->N7 Out):TS:=fun E σ H=>∃ ρ τ o,sd K H ρ τ σ/\f ρ=some o/\∀H',i9 H H'->fin K E τ o H'
def NA(st:D->R->N7 R):TG:=fun v σ H Q=>∃ ρ τ d ρ',sd K H ρ τ σ/\Rep K H d v/\st d ρ=some ρ'/\∀ σ' H',i9 H H'->sd K H' ρ' τ σ'->Q σ' H'
def Kp(H H':Hp):Prop:=∀b u,H b=some u->(∀ φ,u≠.ext φ)->H' b=some u
def vX(J:It)(ds:LD)(H:Hp):Prop:=
 (∀(i:Nat) (d:D) (H2:Hp),Kp H H2->ds[i]?=some d->J.go i H2/\∀x H3,J.yld i H2 x H3->i9 H2 H3/\Rep K H3 d x)/\∀(i:Nat) (H2:Hp),Kp H H2->ds.length<=i->J.stop i H2
def NZ(f:R->N7 LD):TI:=fun σ H W=>∃ ρ ds,se K H ρ σ/\f ρ=some ds/\∀J H',i9 H H'->vX K J ds H'->W J H'
def sQ(F:LD->OD):Sp:=fun vs H Q _=>∃ds d,i8 K H ds vs/\F ds=some d/\∀v H',i9 H H'->Rep K H' d v->Q v H'
end
def SE(X:Cx)(e:OG)(f:R->OD):Prop:=PE X e (tD X.K f)
def ST(X:Cx)(e:OG)(f:R->N7 Bool):Prop:=PT X e (Kz X.K f)
def SW(X:Cx)(e:OG)(f:R->N7 Bool):Prop:=PW X e (Kz X.K f)
def noStar:OG->Bool
 | .Starred _ _=>false
 | _=>true
theorem aJ{e:OG}(es:List OG)(env:Env)(h:noStar e=true):starEach (e::es) env=(false,eval e env)::starEach es env:=by
 cases e<;>first | rfl | cases h
theorem bQ{pos:Pos}{env:Env}:∀{es:List OG},es.all noStar=true->(backTo pos (starEach es env)).any (·.1)=false
 | [],_=>rfl
 | e::es,h=>by
  rw[O2,Oe] at h
  rw[aJ es env h.1]
  show(false||(backTo pos (starEach es env)).any (·.1))=false
  rw[bQ h.2]
  rfl
def SA(X:Cx)(es:List OG)(f:R->N7 LD):Prop:=PA X es (KF X.K f)/\(∀ ρ ds,f ρ=some ds->ds.length=es.length)/\es.all noStar=true
def SO(X:Cx)(e:N7 OG)(f:R->N7 (N7 Int)):Prop:=PO X e (NX X.K f)
def S1(X:Cx)(s:OE)(f:R->N7 Out):Prop:=PS X s (HC X.K f)
def SS(X:Cx)(s:List OE)(f:R->N7 Out):Prop:=PSs X s (HC X.K f)
def SG(X:Cx)(e:OG)(st:D->R->N7 R):Prop:=PG X e (NA X.K st)
def SI(X:Cx)(tg iter:OG)(f:R->N7 LD):Prop:=PI X tg iter (NZ X.K f)
section
variable{X:Cx}{e a b c:OG}{es:List OG}{pos p:Pos}
theorem _root_.L2.PE.imp{t t':TE}(h:PE X e t)(hi:∀ σ H Q,t' σ H Q->t σ H Q):PE X e t':=fun pins s σ H Q I q=>h pins s σ H Q I (hi σ H Q q)
theorem _root_.L2.PT.imp{t t':TT}(h:PT X e t)(hi:∀ σ H Q,t' σ H Q->t σ H Q):PT X e t':=fun pins s σ H Q I q=>h pins s σ H Q I (hi σ H Q q)
theorem _root_.L2.PW.imp{t t':TT}(h:PW X e t)(hi:∀ σ H Q,t' σ H Q->t σ H Q):PW X e t':=fun wh pins s σ H Q I q=>h wh pins s σ H Q I (hi σ H Q q)
theorem _root_.L2.PA.imp{t t':TA}(h:PA X es t)(hi:∀ σ H Q,t' σ H Q->t σ H Q):PA X es t':=fun pos pins s σ H Q I q=>h pos pins s σ H Q I (hi σ H Q q)
theorem _root_.L2.PO.imp{e:N7 OG}{t t':TO}(h:PO X e t)(hi:∀ σ H Q,t' σ H Q->t σ H Q):PO X e t':=fun pins s σ H Q I q=>h pins s σ H Q I (hi σ H Q q)
theorem _root_.L2.PS.imp{s:OE}{t t':TS}(h:PS X s t)(hi:∀E σ H,t' E σ H->t E σ H):PS X s t':=fun pins s σ H E I q=>h pins s σ H E I (hi E σ H q)
theorem _root_.L2.PSs.imp{s:List OE}{t t':TS}(h:PSs X s t)(hi:∀E σ H,t' E σ H->t E σ H):PSs X s t':=fun pins s σ H E I q=>h pins s σ H E I (hi E σ H q)
theorem _root_.L2.PG.imp{t t':TG}(h:PG X e t)(hi:∀v σ H Q,t' v σ H Q->t v σ H Q):PG X e t':=fun pins s σ H v u Q I r q=>h pins s σ H v u Q I r (hi v σ H Q q)
theorem _root_.L2.PGs.imp{t t':Nh}(h:PGs X es t)(hi:∀v σ H Q,t' v σ H Q->t v σ H Q):PGs X es t':=fun pins s σ H v u Q I r q=>h pins s σ H v u Q I r (hi v σ H Q q)
theorem _root_.L2.PI.imp{tg:OG}{t t':TI}(h:PI X tg e t)(hi:∀ σ H Q,t' σ H Q->t σ H Q):PI X tg e t':=fun pins s σ H W I q=>h pins s σ H W I (hi σ H W q)
theorem i5{α β:Type}{o:N7 α}{f:α->N7 β}{y:β}(h:o.bind f=some y):∃x,o=some x/\f x=some y:=by
 cases o with
 | none=>cases h
 | some x=>exact⟨x,rfl,h⟩
theorem rW{α β:Type}{o:N7 α}{f:α->β}{y:β}(h:o.map f=some y):∃x,o=some x/\f x=y:=by
 cases o with
 | none=>cases h
 | some x=>exact⟨x,rfl,Ow h⟩
theorem ad(i:Nat){x:Str}(hN:X.N[i]?=some x:=by rfl)(hv:BS X.env.scope x:=by first | exact Or.inl rfl | exact Or.inr (Or.inl rfl) | exact Or.inr (Or.inr rfl))(hd:(x==("__debug__" : Str))=false:=by decide)
  (hcd:(x==("__classdict__" : Str))=false:=by decide):SE X (.Name x pos) (g4 i):=(jG hN hv hd hcd).imp fun σ H Q ⟨ρ,d,er,e,q⟩=>by
 obtain⟨v,h1,h2⟩:=er.at e
 exact⟨v,h1,q v H (i9.refl H) h2⟩
theorem ae{i j}:SE X (.Constant (.int i) j pos) (kI i):=Jf.imp fun σ H Q ⟨ρ,d,er,e,q⟩=>by
 cases e
 exact q _ H (i9.refl H) rfl
theorem dH{b j}:SE X (.Constant (.bool b) j pos) (fun _=>some (.bl b)):=KR.imp fun σ H Q ⟨ρ,d,er,e,q⟩=>by
 cases e
 exact q _ H (i9.refl H) rfl
theorem aY{j}:SE X (.Constant .none j pos) (fun _=>some .non):=Jw.imp fun σ H Q ⟨ρ,d,er,e,q⟩=>by
 cases e
 exact q _ H (i9.refl H) rfl
theorem aG{x j}:SE X (.Constant (.str x) j pos) (fun _=>some (.str x)):=Fs.imp fun σ H Q ⟨ρ,d,er,e,q⟩=>by
 cases e
 exact q _ H (i9.refl H) rfl
def s_(K:N_)(mg:Str->N7 N8)(x:Str)(d:D):Prop:=∃u v,mg x=some u/\RelV v u/\∀H,Rep K H d v
theorem au{x:Str}{d:D}(h:s_ X.K X.mg x d)(hg:Gl X x:=by rfl)(hd:(x==("__debug__" : Str))=false:=by decide):SE X (.Name x pos) (fun _=>some d):=by
 obtain⟨u,v,hm,r,hr⟩:=h
 exact(kn hg hm r hd).imp fun σ H Q ⟨ρ,d',er,e,q⟩=>by
  cases e
  exact q v H (i9.refl H) (hr H)
def JY(X:Cx)(f:N8->N8->Sem N8)(F:D->D->OD):Prop:=
 OpR X f fun x y H Q=>∃dx dy d,Rep X.K H dx x/\Rep X.K H dy y/\F dx dy=some d/\∀v H',i9 H H'->Rep X.K H' d v->Q v H'
def B9(X:Cx)(op:CmpOp)(F:D->D->N7 Bool):Prop:=
 OpR X (compareOp op) fun x y H Q=>∃dx dy b,Rep X.K H dx x/\Rep X.K H dy y/\F dx dy=some b/\Q (.bl b) H
def Nc(X:Cx)(f:N8->Sem N8)(F:D->OD):Prop:=
 UnR X f fun x H Q=>∃dx d,Rep X.K H dx x/\F dx=some d/\∀v H',i9 H H'->Rep X.K H' d v->Q v H'
def IO(X:Cx)(f:N8)(F:LD->OD):Prop:=
 CallR X f fun xs H Q=>∃ds d,i8 X.K H ds xs/\F ds=some d/\∀v H',i9 H H'->Rep X.K H' d v->Q v H'
theorem _root_.L2.OpR.imp{f:N8->N8->Sem N8}{r r':R2}(h:OpR X f r)(hi:∀x y H Q,r' x y H Q->r x y H Q):OpR X f r':=fun pins s σ H x y v u Q I rx ry q=>h pins s σ H x y v u Q I rx ry (hi x y H Q q)
theorem _root_.L2.UnR.imp{f:N8->Sem N8}{r r':V->Hp->VK->Prop}(h:UnR X f r)(hi:∀x H Q,r' x H Q->r x H Q):UnR X f r':=fun pins s σ H x v Q I rx q=>h pins s σ H x v Q I rx (hi x H Q q)
theorem _root_.L2.CallR.imp{f:N8}{r r':List V->Hp->VK->Prop}(h:CallR X f r)(hi:∀x H Q,r' x H Q->r x H Q):CallR X f r':=fun pins s σ H xs us Q I rx q=>h pins s σ H xs us Q I rx (hi xs H Q q)
variable{f g h:R->OD}
theorem two{σ:L2.St}{H:Hp}{Q:VK}{F:D->D->OD}(q:tD X.K (i6 F f g) σ H Q) :
  tD X.K f σ H fun x H1=>tD X.K g σ H1 fun y H2=>∃dx dy d,Rep X.K H2 dx x/\Rep X.K H2 dy y/\F dx dy=some d/\∀v H',i9 H2 H'->Rep X.K H' d v->Q v H':=by
 obtain⟨ρ,d,er,e,q⟩:=q
 obtain⟨x,e1,e⟩:=i5 e
 obtain⟨y,e2,e⟩:=i5 e
 exact⟨ρ,x,er,e1,fun v H1 s1 r1=>⟨ρ,y,er.mono s1,e2,fun u H2 s2 r2=>⟨x,y,d,r1.mono s2,r2,e,fun w H3 s3 r3=>q w H3 (s1.trans (s2.trans s3)) r3⟩⟩⟩
theorem aj{op:Operator}{F:D->D->OD}(ho:JY X (binaryOp op) F)(ha:SE X a f)(hb:SE X b g):SE X (.BinOp a op b pos) (i6 F f g):=(rC ho ha hb).imp fun σ H Q q=>two q
theorem rn{op:UnaryOp}{F:D->OD}(ho:Nc X (unaryOp op) F)(ha:SE X a f):SE X (.UnaryOp op a pos) (vC F f):=(rk ho ha).imp fun σ H Q ⟨ρ,d,er,e,q⟩=>by
 obtain⟨x,e1,e⟩:=i5 e
 exact⟨ρ,x,er,e1,fun v H1 s1 r1=>⟨x,d,r1,e,fun w H2 s2 r2=>q w H2 (s1.trans s2) r2⟩⟩
theorem Me{σ:L2.St}{H:Hp}{Q:Bool->Hp->Prop}{F:D->D->N7 Bool}(q:Kz X.K (l7 F f g) σ H Q) :
  tD X.K f σ H fun x H1=>tD X.K g σ H1 fun y H2=>∃dx dy b,Rep X.K H2 dx x/\Rep X.K H2 dy y/\F dx dy=some b/\Q b H2:=by
 obtain⟨ρ,d,er,e,q⟩:=q
 obtain⟨x,e1,e⟩:=i5 e
 obtain⟨y,e2,e⟩:=i5 e
 exact⟨ρ,x,er,e1,fun v H1 s1 r1=>⟨ρ,y,er.mono s1,e2,fun u H2 s2 r2=>⟨x,y,d,r1.mono s2,r2,e,q H2 (s1.trans s2)⟩⟩⟩
theorem IG{σ:L2.St}{H:Hp}{Q:VK}{f:R->N7 Bool}(q:tD X.K (Bm f) σ H Q):Kz X.K f σ H fun b H'=>Q (.bl b) H':=by
 obtain⟨ρ,d,er,e,q⟩:=q
 obtain⟨x,e1,e⟩:=rW e
 subst e
 exact⟨ρ,x,er,e1,fun H1 s1=>q _ H1 s1 rfl⟩
theorem dB{op:CmpOp}{F:D->D->N7 Bool}(ho:B9 X op F)(ha:SE X a f)(hb:SE X b g)(hm:behindInMarks op b=false:=by first | exact Av _ | with_unfolding_all rfl) :
  SE X (.Compare a [op] [b] pos) (Bm (l7 F f g)):=(pN ho ha hb hm).imp fun σ H Q q=>Me (IG q)
theorem aF{op:CmpOp}{F:D->D->N7 Bool}(ho:B9 X op F)(ha:SE X a f)(hb:SE X b g)(hm:behindInMarks op b=false:=by first | exact Av _ | with_unfolding_all rfl) :
  ST X (.Compare a [op] [b] pos) (l7 F f g):=(kj ho ha hb hm).imp fun σ H Q q=>by
 obtain⟨ρ,d,er,e,q⟩:=q
 obtain⟨x,e1,e⟩:=i5 e
 obtain⟨y,e2,e⟩:=i5 e
 exact⟨ρ,x,er,e1,fun v H1 s1 r1=>⟨ρ,y,er.mono s1,e2,fun u H2 s2 r2=>⟨x,y,d,r1.mono s2,r2,e,d,rfl,q H2 (s1.trans s2)⟩⟩⟩
theorem GD{H:Hp}{d:D}{v:V}{b:Bool}{K:N_}(r:Rep K H d v)(e:Iz d=some b):Jr K v H b:=by
 cases d with
 | non=>cases (show v=_ from r);cases e;exact rfl
 | bl c=>cases (show v=_ from r);cases e;exact rfl
 | int i=>cases (show v=_ from r);cases e;exact rfl
 | str x =>
  cases (show v=_ from r)
  unfold Iz at e
  dsimp only at e
  split at e
  ·rename_i hx
   cases e
   exact⟨hx,rfl⟩
  ·cases e
 | tup ds =>
  obtain⟨a,xs,rfl,q,t⟩:=r
  cases e
  refine .inr (.inl ⟨xs,q,?_⟩)
  cases ds with
  | nil=>cases (show xs=[] from t);rfl
  | cons d ds=>obtain⟨_,_,rfl,_⟩:=t;rfl
 | lst ds =>
  obtain⟨a,xs,rfl,q,t⟩:=r
  cases e
  refine .inl ⟨xs,uJ.of q,?_⟩
  cases ds with
  | nil=>cases (show xs=[] from t);rfl
  | cons d ds=>obtain⟨_,_,rfl,_⟩:=t;rfl
 | fro ds =>
  obtain⟨a,xs,rfl,q,t⟩:=r
  cases e
  refine .inl ⟨xs,q,?_⟩
  cases ds with
  | nil=>cases (show xs=[] from t);rfl
  | cons d ds=>obtain⟨_,_,rfl,_⟩:=t;rfl
 | obj k a ks ds=>cases e
 | rf a=>cases e
theorem dA(ha:SE X a f)(he:∀whole,isTrue a X.env whole=(do let v <- whole;standAt a.pos;holding [v] (truthy v)):=by intro _;rfl):ST X a (vK f):=(o_ ha he).imp fun σ H Q ⟨ρ,b,er,e,q⟩=>by
 obtain⟨x,e1,e⟩:=i5 e
 exact⟨ρ,x,er,e1,fun v H1 s1 r1=>⟨b,GD r1 e,q H1 s1⟩⟩
variable{s t:R->N7 Bool}{rest:List OG}
theorem iD{e:OG}(h:SW X e s):ST X e s:=PW.pt h
theorem mB(ha:ST X a s):SW X (.BoolOp .And [a] pos) s:=G2 ha
theorem iK(ha:ST X a s):SW X (.BoolOp .Or [a] pos) s:=CG ha
theorem pC(ha:ST X a s)(hb:SW X (.BoolOp .And (b::rest) pos) t):SW X (.BoolOp .And (a::b::rest) pos) (Ec s t):=(Ji ha hb).imp fun σ H Q ⟨ρ,k,er,e,q⟩=>by
 obtain⟨x,e1,e⟩:=i5 e
 refine⟨ρ,x,er,e1,fun H1 s1=>?_⟩
 cases x with
 | false=>cases e;rw[Ov Oi];exact q H1 s1
 | true=>rw[Of rfl] at e ⊢;exact⟨ρ,k,er.mono s1,e,fun H2 s2=>q H2 (s1.trans s2)⟩
theorem jF(ha:ST X a s)(hb:SW X (.BoolOp .Or (b::rest) pos) t):SW X (.BoolOp .Or (a::b::rest) pos) (BW s t):=(E_ ha hb).imp fun σ H Q ⟨ρ,k,er,e,q⟩=>by
 obtain⟨x,e1,e⟩:=i5 e
 refine⟨ρ,x,er,e1,fun H1 s1=>?_⟩
 cases x with
 | true=>cases e;rw[Of rfl];exact q H1 s1
 | false=>rw[Ov Oi] at e ⊢;exact⟨ρ,k,er.mono s1,e,fun H2 s2=>q H2 (s1.trans s2)⟩
theorem jW(ha:ST X a s):ST X (.UnaryOp .Not a pos) (Cw s):=(qS ha).imp fun σ H Q ⟨ρ,k,er,e,q⟩=>by
 obtain⟨x,e1,e⟩:=rW e
 subst e
 exact⟨ρ,x,er,e1,fun H1 s1=>q H1 s1⟩
theorem jX{op}(ha:SE X a f):SE X (.BoolOp op [a] pos) f:=qG ha
theorem iE(ha:SE X a f)(hb:SE X (.BoolOp .And (b::rest) pos) g):SE X (.BoolOp .And (a::b::rest) pos) (AN f g):=(qN ha hb).imp fun σ H Q ⟨ρ,d,er,e,q⟩=>by
 obtain⟨x,e1,e⟩:=i5 e
 refine⟨ρ,x,er,e1,fun v H1 s1 r1=>?_⟩
 cases x with
 | bl c =>
  cases (show v=_ from r1)
  refine⟨c,rfl,?_⟩
  cases c with
  | false=>cases e;rw[Ov Oi];exact q _ H1 s1 rfl
  | true=>rw[Of rfl];exact⟨ρ,d,er.mono s1,e,fun v H2 s2 r2=>q v H2 (s1.trans s2) r2⟩
 | _=>cases e
theorem kr(ha:SE X a f):SE X (.UnaryOp .Not a pos) (Cc f):=(qV ha).imp fun σ H Q ⟨ρ,d,er,e,q⟩=>by
 obtain⟨x,e1,e⟩:=i5 e
 refine⟨ρ,x,er,e1,fun v H1 s1 r1=>?_⟩
 cases x with
 | bl c =>
  cases (show v=_ from r1)
  cases e
  exact⟨c,rfl,q _ H1 s1 rfl⟩
 | _=>cases e
theorem eZ(hc:ST X c s)(ha:SE X a f)(hb:SE X b g):SE X (.IfExp c a b pos) (Ba s f g):=(pF hc ha hb).imp fun σ H Q ⟨ρ,d,er,e,q⟩=>by
 obtain⟨x,e1,e⟩:=i5 e
 refine⟨ρ,x,er,e1,fun H1 s1=>?_⟩
 cases x with
 | true=>rw[Of rfl] at e ⊢;exact⟨ρ,d,er.mono s1,e,fun v H2 s2 r2=>q v H2 (s1.trans s2) r2⟩
 | false=>rw[Ov Oi] at e ⊢;exact⟨ρ,d,er.mono s1,e,fun v H2 s2 r2=>q v H2 (s1.trans s2) r2⟩
variable{F:R->N7 LD}
theorem af:SA X [] g5:=⟨AD.imp fun σ H Q ⟨ρ,d,er,e,q⟩=>by cases e;exact q [] H (i9.refl H) rfl,fun ρ ds e=>by cases e;rfl,rfl⟩
theorem ac(ha:SE X e f)(hr:SA X es F)(hs:noStar e=true:=by rfl):SA X (e::es) (e8 f F):=⟨(gb ha hr.1 (aJ es X.env hs)).imp fun σ H Q ⟨ρ,ds,er,e,q⟩=>by
 obtain⟨x,e1,e⟩:=i5 e
 obtain⟨y,e2,e⟩:=rW e
 subst e
 exact⟨ρ,x,er,e1,fun v H1 s1 r1=>⟨ρ,y,er.mono s1,e2,fun vs H2 s2 r2=>q _ H2 (s1.trans s2) (i8.cons (r1.mono s2) r2)⟩⟩,fun ρ ds e=>by
 obtain⟨x,e1,e⟩:=i5 e
 obtain⟨y,e2,e⟩:=rW e
 subst e
 simp[hr.2.1 ρ y e2],by rw[O2,hs,hr.2.2];rfl⟩
theorem bh{H:Hp}{p:N9}(h:H p=none)(o:HO):i9 H (upd H p o):=fun b u q=>by rw[aq (so q h)];exact q
theorem aA{k}(h:SA X es F)(hl:Nat.ble es.length 1000=true:=by rfl):SE X (.Tuple es k pos) (rM F):=(mv h.1).imp fun σ H Q ⟨ρ,d,er,e,q⟩=>by
 obtain⟨ds,e1,e⟩:=rW e
 subst e
 refine⟨ρ,ds,er,e1,fun vs H1 s1 r1=>⟨?_,fun p hp=>?_⟩⟩
 ·rw[<- r1.length,h.2.1 ρ ds e1];exact Nat.le_of_lt (wo (Nat.le_of_ble_eq_true hl))
 ·have s2:=bh hp (.tup vs)
  exact q _ _ (s1.trans s2) ⟨p,vs,rfl,vg.of av,r1.mono s2⟩
theorem om(h:SA X es F)(hl:Nat.ble es.length 1000=true:=by rfl):SE X (.List es pos) (GY F):=(lZ h.1).imp fun σ H Q ⟨ρ,d,er,e,q⟩=>by
 obtain⟨ds,e1,e⟩:=rW e
 subst e
 refine⟨ρ,ds,er,e1,fun vs H1 s1 r1=>⟨?_,fun p hp=>?_⟩⟩
 ·rw[<- r1.length,h.2.1 ρ ds e1];exact Nat.le_of_lt (wo (Nat.le_of_ble_eq_true hl))
 ·have s2:=bh hp (.lst vs)
  exact q _ _ (s1.trans s2) ⟨p,vs,rfl,av,r1.mono s2⟩
structure m9 (P:Oh) (w:Ot) (K:N_) (mg:Str->N7 N8) (base:OC) (k:Nat) (x:Str) (ps:List Str) (F:LD->OD):Prop where
 ex:∃f fd,k6 P w K mg base rV k f fd ps (sQ K F)/\mg x=some (.ref f)/\W.keepIn K (.ref f)=true/\Binds K fd ps []
theorem m9.mono{P:Oh}{w:Ot}{K:N_}{mg:Str->N7 N8}{base:OC}{j k:Nat}{x:Str}{ps:List Str}{F:LD->OD}(h:m9 P w K mg base j x ps F)(hk:j<=k):m9 P w K mg base k x ps F:=by
 obtain⟨f,fd,a,b⟩:=h.ex
 exact⟨f,fd,a.mono hk,b⟩
theorem m9.imp{P:Oh}{w:Ot}{K:N_}{mg:Str->N7 N8}{base:OC}{k:Nat}{x:Str}{ps:List Str}{F G:LD->OD}(h:m9 P w K mg base k x ps F)(hi:∀ds d,G ds=some d->F ds=some d):m9 P w K mg base k x ps G:=by
 obtain⟨f,fd,a,b⟩:=h.ex
 exact⟨f,fd,a.imp fun vs H Q E ⟨ds,d,r,e,q⟩=>⟨ds,d,r,hi ds d e,q⟩,b⟩
theorem ai{k:Nat}{x:Str}{ps:List Str}{G:LD->OD}(C:m9 X.prog X.w X.K X.mg X.base k x ps G)(hr:rO k X.A)(ha:SA X (e::es) F)(hg:Gl X x:=by rfl)
  (hdb:(x==("__debug__" : Str))=false:=by decide) :
  SE X (.Call (.Name x p) (e::es) [] pos) (h9 G F):=by
 have hst:=ha.2.2
 rw[O2,Oe] at hst
 have he:=aJ es X.env hst.1
 have hpl:=bQ (pos:=pos) (env:=X.env) hst.2
 obtain⟨f,fd,a,m,kp,bd⟩:=C.ex
 refine(jL a hr hg m kp bd .nil xE ha.1 hdb he hpl).imp fun σ H Q ⟨ρ,d,er,e,q⟩=>?_
 obtain⟨ds,e1,e⟩:=i5 e
 exact⟨ρ,ds,er,e1,fun vs H1 s1 r1=>⟨ds,d,by rw[OQ];exact r1,e,fun v H2 s2 r2=>q v H2 (s1.trans s2) r2⟩⟩
theorem bA{x:Str}{id:String}{G:LD->OD}(hc:IO X (.builtin id) G)(hm:X.mg x=none)(ha:SA X (e::es) F)(hv:bootBuiltins x=some (.builtin id):=by kernel_rfl)(hg:Gl X x:=by rfl)(hn:x ≠ "__name__":=by decide)(hdb:(x==("__debug__" : Str))=false:=by decide):SE X (.Call (.Name x p) (e::es) [] pos) (h9 G F):=
 (n_ hc hg hm hv ha.1 hn hdb (aJ es X.env (Oz.mp ha.2.2 e ON)) (bQ (Oz.mpr fun x hx=>Oz.mp ha.2.2 x (Oy _ hx)))).imp fun σ H Q ⟨ρ,d,er,e,q⟩=>by
  obtain⟨ds,e1,e⟩:=i5 e
  exact⟨ρ,ds,er,e1,fun vs H1 s1 r1=>⟨ds,d,r1,e,fun v H2 s2 r2=>q v H2 (s1.trans s2) r2⟩⟩
theorem il{x:Str}{T:String}{G:LD->OD}(hc:IO X (.type T) G)(hm:X.mg x=none)(ha:SA X (e::es) F)(hv:bootBuiltins x=some (.type T):=by kernel_rfl)(hg:Gl X x:=by rfl)(hn:x ≠ "__name__":=by decide)(hdb:(x==("__debug__" : Str))=false:=by decide):SE X (.Call (.Name x p) (e::es) [] pos) (h9 G F):=
 (nG hc hg hm hv ha.1 hn hdb (aJ es X.env (Oz.mp ha.2.2 e ON)) (bQ (Oz.mpr fun x hx=>Oz.mp ha.2.2 x (Oy _ hx)))).imp fun σ H Q ⟨ρ,d,er,e,q⟩=>by
  obtain⟨ds,e1,e⟩:=i5 e
  exact⟨ρ,ds,er,e1,fun vs H1 s1 r1=>⟨ds,d,r1,e,fun v H2 s2 r2=>q v H2 (s1.trans s2) r2⟩⟩
def NO(X:Cx)(F:D->D->OD):Prop:=IxR X fun x y H Q=>∃dx dy d,Rep X.K H dx x/\Rep X.K H dy y/\F dx dy=some d/\∀v H',i9 H H'->Rep X.K H' d v->Q v H'
theorem _root_.L2.IxR.imp{r r':R2}(h:IxR X r)(hi:∀x y H Q,r' x y H Q->r x y H Q):IxR X r':=fun value slice pins s σ H x y v u Q I rx ry q hs=>h value slice pins s σ H x y v u Q I rx ry (hi x y H Q q) hs
theorem IW(n:Nat)(i:Int):KN n i=Lj n i:=rfl
theorem Ax{K:N_}{H:Hp}{ds:LD}{xs:List V}{i:Int}{d:D}(r:i8 K H ds xs)(e:Fk ds i=some d):∃v,Jt xs i=some v/\Rep K H d v:=by
 obtain⟨j,e1,e2⟩:=i5 e
 obtain⟨v,h1,h2⟩:=r.get e2
 refine⟨v,?_,h2⟩
 unfold Jt
 rw[<- r.length,<- IW,e1]
 exact h1
theorem Mo:NO X k8:=(GS.or (JD.or JL)).imp fun x y H Q ⟨dx,dy,d,r1,r2,e,q⟩=>by
 cases dx with
 | tup ds =>
  cases dy with
  | int i =>
   obtain⟨a,xs,e1,hq,t⟩:=r1
   cases (show y=_ from r2)
   obtain⟨v,h1,h2⟩:=Ax t e
   exact .inr (.inl ⟨a,xs,i,v,e1,rfl,hq,h1,q v H (i9.refl H) h2⟩)
  | _=>cases e
 | lst ds =>
  cases dy with
  | int i =>
   obtain⟨a,xs,e1,hq,t⟩:=r1
   cases (show y=_ from r2)
   obtain⟨v,h1,h2⟩:=Ax t e
   exact .inl ⟨a,xs,i,v,e1,rfl,uJ.of hq,h1,q v H (i9.refl H) h2⟩
  | _=>cases e
 | fro ds =>
  cases dy with
  | int i =>
   obtain⟨a,xs,e1,hq,t⟩:=r1
   cases (show y=_ from r2)
   obtain⟨v,h1,h2⟩:=Ax t e
   exact .inl ⟨a,xs,i,v,e1,rfl,hq,h1,q v H (i9.refl H) h2⟩
  | _=>cases e
 | str z =>
  cases dy with
  | int i =>
   cases (show x=_ from r1)
   cases (show y=_ from r2)
   unfold k8 at e
   dsimp only at e
   split at e
   ·rename_i hz
    obtain⟨c,e1,e2⟩:=rW e
    subst e2
    exact .inr (.inr ⟨z,i,c,rfl,rfl,hz,(by rw[<- e1];rfl),q _ H (i9.refl H) rfl⟩)
   ·cases e
  | _=>cases e
 | _=>cases e
theorem ag(ha:SE X a f)(hb:SE X b g)(hs:Aw b:=by intro _ _;rfl):SE X (.Subscript a b pos) (i6 k8 f g):=(qk Mo ha hb hs).imp fun σ H Q q=>two q
variable{st:OE}{sts:List OE}{u w:R->N7 Out}
theorem bf:SS X [] sC:=yE.imp fun E σ H ⟨ρ,τ,o,er,e,q⟩=>by
 cases e
 exact q H (i9.refl H) σ er
theorem Jp{E:Ends}{σ:L2.St}{H:Hp}{K:N_}(q:HC K (m6 u w) E σ H):HC K u {E with nx:=HC K w E} σ H:=by
 obtain⟨ρ,τ,o,er,e,q⟩:=q
 obtain⟨o1,e1,e⟩:=i5 e
 refine⟨ρ,τ,o1,er,e1,fun H1 s1=>?_⟩
 cases o1 with
 | nx ρ2=>exact fun σ2 er2=>⟨ρ2,τ,o,er2,e,fun H2 s2=>q H2 (s1.trans s2)⟩
 | rt d=>cases e;exact q H1 s1
 | bk ρ2=>cases e;exact q H1 s1
 | ct ρ2=>cases e;exact q H1 s1
theorem ak(h1:S1 X st u)(h2:SS X sts w):SS X (st::sts) (m6 u w):=(dM h1 h2).imp fun E σ H q=>Jp q
theorem al(h1:S1 X st u):SS X [st] u:=dh h1
theorem ax(ha:SE X a f):S1 X (.Return (some a) pos) (l6 f):=(j4 ha).imp fun E σ H ⟨ρ,τ,o,er,e,q⟩=>by
 obtain⟨x,e1,e⟩:=rW e
 subst e
 exact⟨ρ,x,er.1,e1,fun v H1 s1 r1=>q H1 s1 v r1⟩
theorem cT{B1 B2:List OE}(hc:ST X c s)(ha:SS X B1 u)(hb:SS X B2 w):S1 X (.If c B1 B2 pos) (xM s u w):=(jw hc ha hb).imp fun E σ H ⟨ρ,τ,o,er,e,q⟩=>by
 obtain⟨x,e1,e⟩:=i5 e
 refine⟨ρ,x,er.1,e1,fun H1 s1=>?_⟩
 cases x with
 | true=>rw[Of rfl] at e ⊢;exact⟨ρ,τ,o,er.mono s1,e,fun H2 s2=>q H2 (s1.trans s2)⟩
 | false=>rw[Ov Oi] at e ⊢;exact⟨ρ,τ,o,er.mono s1,e,fun H2 s2=>q H2 (s1.trans s2)⟩
theorem ao(i:Nat){x:Str}(hN:X.N.Nodup)(hi:X.N[i]?=some x:=by rfl)(hx:Loc X.env.scope x:=by first | exact Or.inl rfl | exact Or.inr rfl)(hf:X.fn x=true\/X.env.scope.names.lookup x=some .local:=by first | exact .inl rfl | exact .inr rfl) :
  SG X (.Name x pos) (setAt i):=(pU hN hi hx hf).imp fun v σ H Q ⟨ρ,τ,d,ρ',er,r,e,q⟩=>by
 unfold setAt at e
 split at e
 ·rename_i hlt
  cases e
  exact q _ H (i9.refl H) (er.set hlt r)
 ·cases e
variable{stf:D->R->N7 R}{stfs:List (D->R->N7 R)}
theorem aB{tg:OG}(ha:SE X a f)(hg:SG X tg stf)(hs:swapsWithSole [tg] a pos.line X.env=pure false:=by rfl)(hw:swappedStores [tg] a X.env=pure none:=by rfl)(h1:(assignEach [tg] X.env).map (·.2)=[assign tg X.env]:=by rfl) :
  S1 X (.Assign [tg] a pos) (m8 f stf):=(qW ha hg hs hw h1).imp fun E σ H ⟨ρ,τ,o,er,e,q⟩=>by
 obtain⟨x,e1,e⟩:=i5 e
 obtain⟨ρ',e2,e⟩:=rW e
 subst e
 exact⟨ρ,x,er.1,e1,fun v H1 s1 r1=>⟨ρ,τ,x,ρ',er.mono s1,r1,e2,fun σ2 H2 s2 er2=>q H2 (s1.trans s2) σ2 er2⟩⟩
theorem Kp.of{H H':Hp}(s:i9 H H'):Kp H H':=fun b u e _=>s b u e
theorem Kp.refl(H:Hp):Kp H H:=fun _ _ e _=>e
theorem Kp.seq{K:N_}{H H':Hp}{a:N9}{xs:List V}(s:Kp H H')(h:uJ K H a xs):uJ K H' a xs:=by
 rcases h with (h | ⟨o,h⟩) | h
 ·exact .inl (.inl (s _ _ h fun φ z=>nomatch z))
 ·exact .inl (.inr ⟨o,s _ _ h fun φ z=>nomatch z⟩)
 ·exact .inr h
theorem Kp.tup{K:N_}{H H':Hp}{a:N9}{xs:List V}(s:Kp H H')(h:vg K H a xs):vg K H' a xs:=by
 rcases h with (h | ⟨o,h⟩) | h
 ·exact .inl (.inl (s _ _ h fun φ z=>nomatch z))
 ·exact .inl (.inr ⟨o,s _ _ h fun φ z=>nomatch z⟩)
 ·exact .inr h
mutual
theorem Rep.kp{K:N_}{H H':Hp}(s:Kp H H'):∀{d:D} {v:V},Rep K H d v->Rep K H' d v
 | .non,_,h=>h
 | .bl _,_,h=>h
 | .int _,_,h=>h
 | .str _,_,h=>h
 | .tup ds,_,h=>by
  obtain⟨a,xs,e,q,r⟩:=h
  exact⟨a,xs,e,s.tup q,i8.kp s r⟩
 | .lst ds,_,h=>by
  obtain⟨a,xs,e,q,r⟩:=h
  exact⟨a,xs,e,s _ _ q (fun φ z=>by cases z),i8.kp s r⟩
 | .fro ds,_,h=>by
  obtain⟨a,xs,e,q,r⟩:=h
  exact⟨a,xs,e,s.seq q,i8.kp s r⟩
 | .obj k a ks ds,_,h=>by
  obtain⟨xs,e,q,r⟩:=h
  exact⟨xs,e,q.to fun u z n=>s _ u z n,i8.kp s r⟩
 | .rf _,_,h=>h
theorem i8.kp{K:N_}{H H':Hp}(s:Kp H H'):∀{ds:LD} {vs:List V},i8 K H ds vs->i8 K H' ds vs
 | [],_,h=>h
 | d::ds,_,h=>by
  obtain⟨v,r,e,q,t⟩:=h
  exact⟨v,r,e,Rep.kp s q,i8.kp s t⟩
end
theorem se.kp{K:N_}{H H':Hp}{ρ:R}{σ:L2.St}(e:se K H ρ σ)(s:Kp H H'):se K H' ρ σ:=⟨e.1,fun i d h=>let ⟨v,a,b⟩:=e.2 i d h;⟨v,a,b.kp s⟩⟩
theorem sd.kp{K:N_}{H H':Hp}{ρ:R}{τ σ:L2.St}(e:sd K H ρ τ σ)(s:Kp H H'):sd K H' ρ τ σ:=⟨e.1.kp s,e.2⟩
theorem gQ{K:N_}{H:Hp}{a:N9}{ds:LD}{xs:List V}(hq:uJ K H a xs)(t:i8 K H ds xs):vX K (L9 K a) ds H:=by
 refine⟨fun i d H2 s2 e=>?_,fun i H2 s2 hl=>⟨xs,s2.seq hq,by rw[<- t.length];exact hl⟩⟩
 obtain⟨v,h1,h2⟩:=t.get e
 refine⟨⟨xs,v,s2.seq hq,h1⟩,fun x H3 ⟨e3,y⟩=>?_⟩
 subst e3
 have:=(y xs (s2.seq hq)).symm.trans h1
 cases this
 exact⟨i9.refl _,h2.kp s2⟩
theorem lN{K:N_}{H:Hp}{a:N9}{ds:LD}{xs:List V}(hq:vg K H a xs)(t:i8 K H ds xs):vX K (MD K a) ds H:=by
 refine⟨fun i d H2 s2 e=>?_,fun i H2 s2 hl=>⟨xs,s2.tup hq,by rw[<- t.length];exact hl⟩⟩
 obtain⟨v,h1,h2⟩:=t.get e
 refine⟨⟨xs,v,s2.tup hq,h1⟩,fun x H3 ⟨e3,y⟩=>?_⟩
 subst e3
 have:=(y xs (s2.tup hq)).symm.trans h1
 cases this
 exact⟨i9.refl _,h2.kp s2⟩
theorem E1{a b:Int}{i:Nat}{d:D}(e:(uZ a b)[i]?=some d):i<(b - a).toNat/\d=.int (a+i):=by
 unfold uZ at e
 rw[O6] at e
 obtain⟨k,e1,e⟩:=rW e
 obtain⟨h1,h2⟩:=OI.mp e1
 rw[List.length_range] at h1
 rw[List.getElem_range] at h2
 subst h2
 exact⟨h1,e.symm⟩
theorem iS{K:N_}{H:Hp}{a b:Int}:vX K (J2 a (b - a).toNat) (uZ a b) H:=by
 refine⟨fun i d H2 s2 e=>?_,fun i H2 s2 hl=>by
  have z:(uZ a b).length=(b - a).toNat:=by simp[uZ]
  rw[z] at hl
  exact hl⟩
 obtain⟨h1,rfl⟩:=E1 e
 refine⟨h1,fun x H3 ⟨e3,y⟩=>?_⟩
 subst e3
 exact⟨i9.refl _,y⟩
def LU(K:N_)(tl:TE):TI:=fun σ H W=>tl σ H fun x H1=>(∃a,x=.ref a/\(((∃xs,uJ K H1 a xs)/\W (L9 K a) H1)\/((∃xs,vg K H1 a xs)/\W (MD K a) H1)))\/∃z,x=.str z/\z.cps.all (·<128)=true/\W (L4 z) H1
theorem mf{K:N_}{H:Hp}{x:Str}:vX K (L4 x) (chars x) H:=by
 have hl:(chars x).length=x.cps.size:=by simp[chars]
 refine⟨fun i d H2 s2 e=>?_,fun i H2 s2 h=>by rw[hl] at h;exact h⟩
 have hi:i<x.cps.size:=by rw[<- hl];exact(OI.mp e).1
 refine⟨hi,fun v H3 ⟨e3,c,h1,h2⟩=>?_⟩
 subst e3
 refine⟨i9.refl _,?_⟩
 unfold chars at e
 rw[O6] at e
 obtain⟨c',e1,e⟩:=rW e
 have h1':x.cps.toList[i]?=some c:=by simpa using h1
 rw[h1'] at e1
 cases e1
 subst e
 exact h2
theorem oC{tg l:OG}{tl:TE}(hl:PE X l tl):PI X tg l (LU X.K tl):=by
 intro pins s σ H W I h
 refine sh (hl pins s σ H _ I h) fun v s1 ⟨x,H1,I1,r1,q1⟩=>?_
 rcases q1 with ⟨a,e,q1⟩ | ⟨z,e,hz,q⟩
 rotate_left
 ·subst e
  obtain⟨t,rfl⟩:=r1
  refine wpAny_pyIter_ascii hz ?_
  refine⟨s1.heap.objs.size,[s1.heap.objs.size],_,_,H1,rfl,I1.kept (t':=s1.toks) fun b o e=>Og _ e,FN _ z t,⟨_,Ox _ rfl,rfl,rfl⟩,fun b hb=>?_,q⟩
  have e:b=s1.heap.objs.size:=by simpa using hb
  subst e
  exact I1.fpOk (Oo _) (I1.hok.fresh (Oo _))
 subst e
 cases r1
 rcases q1 with ⟨⟨xs,hq⟩,q⟩ | ⟨⟨xs,hq⟩,q⟩
 ·obtain⟨its,rv,p,hz⟩:=I1.list hq
  refine wpAny_pyIter_list p.isList ?_
  refine⟨s1.heap.objs.size,[s1.heap.objs.size],_,_,H1,rfl,I1.kept (t':=s1.toks) fun b o e=>Og _ e,Em a _,⟨_,Ox _ rfl,rfl,rfl⟩,fun b hb=>?_,q⟩
  have e:b=s1.heap.objs.size:=by simpa using hb
  subst e
  exact I1.fpOk (Oo _) (I1.hok.fresh (Oo _))
 ·obtain⟨its,rv,p,hz⟩:=I1.tuple hq
  refine wpAny_pyIter_tuple (show s1.heap.IsTuple a its.toArray from p) ?_
  refine⟨s1.heap.objs.size,[s1.heap.objs.size],_,_,H1,rfl,I1.kept (t':=s1.toks) fun b o e=>Og _ e,CO a _,⟨_,Ox _ rfl,rfl,rfl⟩,fun b hb=>?_,q⟩
  have e:b=s1.heap.objs.size:=by simpa using hb
  subst e
  exact I1.fpOk (Oo _) (I1.hok.fresh (Oo _))
theorem qK{tg:OG}(ha:SE X a f):SI X tg a (DC f):=(oC ha).imp fun σ H W ⟨ρ,ds,er,e,q⟩=>by
 obtain⟨x,e1,e⟩:=i5 e
 refine⟨ρ,x,er,e1,fun v H1 s1 r1=>?_⟩
 cases x with
 | tup xs =>
  cases e
  obtain⟨a,vs,ev,hq,t⟩:=r1
  exact .inl ⟨a,ev,.inr ⟨⟨vs,hq⟩,q _ H1 s1 (lN hq t)⟩⟩
 | lst xs =>
  cases e
  obtain⟨a,vs,ev,hq,t⟩:=r1
  exact .inl ⟨a,ev,.inl ⟨⟨vs,uJ.of hq⟩,q _ H1 s1 (gQ (uJ.of hq) t)⟩⟩
 | str z =>
  dsimp only at e
  split at e
  ·rename_i hz
   cases e
   cases (show v=_ from r1)
   exact .inr ⟨z,rfl,hz,q _ H1 s1 mf⟩
  ·cases e
 | _=>cases e
theorem mU{tg:OG}(hm:X.mg "range" = none)(ha:SE X a f)(hg:Gl X "range":=by rfl)(hs:noStar a=true:=by rfl):SI X tg (.Call (.Name "range" p) [a] [] pos) (vP f):=
 (jA hg hm (ac ha af hs).1 (aJ [] X.env hs)).imp fun σ H W ⟨ρ,ds,er,e,q⟩=>by
  obtain⟨x,e1,e⟩:=i5 e
  cases x with
  | int j =>
   dsimp only at e
   split at e
   ·rename_i hj
    cases e
    refine⟨ρ,[.int j],er,by show(f ρ).bind _=_;rw[e1];rfl,fun vs H1 s1 r1=>?_⟩
    obtain⟨v,r,rfl,r2,r3⟩:=r1
    cases (show v=_ from r2)
    cases (show r=_ from r3)
    refine⟨j,rfl,hj.1,hj.2,q _ H1 s1 ?_⟩
    have z:=iS (K:=X.K) (H:=H1) (a:=0) (b:=j)
    rw[Int.sub_zero] at z
    exact z
   ·cases e
  | _=>cases e
theorem qv{tg iter:OG}{B:List OE}{it:R->N7 LD}(hp:PassesOwn (model X.prog X.w) X.A X.env X.xe)(hc:X.calm=true)(hi:SI X tg iter it)(hg:SG X tg stf)(hb:SS X B u)
  (hs:∀x,foldedSetIterable iter X.env x=pure x:=by intro _;rfl):S1 X (.For tg iter B [] pos) (Bb it stf u):=(oZ hp hc hi hg hb hs).imp fun E σ H ⟨ρ,τ,o,er,e,q⟩=>by
 obtain⟨ds,e1,e⟩:=i5 e
 refine⟨ρ,ds,er.1,e1,fun J H1 s1 y=>?_⟩
 refine⟨fun i m σ' H'=>m=ds.length - i/\i<=ds.length/\i9 H1 H'/\∃ ρ',sd X.K H' ρ' τ σ'/\Au stf u (ds.drop i) ρ'=some o,⟨ds.length,by simp,Pg _,i9.refl _,ρ,er.mono s1,by simpa using e⟩,?_⟩
 rintro i m σ' H' ⟨rfl,hi,s2,ρ',er',e'⟩
 by_cases hlt:i<ds.length
 ·refine .inr ?_
  have hd:ds[i]?=some ds[i]:=by simp[hlt]
  obtain⟨hgo,hy⟩:=y.1 i ds[i] H' (Kp.of s2) hd
  rw[Ph hlt] at e'
  obtain⟨ρ1,e2,e'⟩:=i5 e'
  obtain⟨o1,e3,e'⟩:=i5 e'
  refine⟨hgo,fun σ2 H2=>i+1<=ds.length/\i9 H1 H2/\∃ ρ',sd X.K H2 ρ' τ σ2/\Au stf u (ds.drop (i+1)) ρ'=some o,fun σ2 H2 n2=>⟨ds.length - (i+1),by omega,rfl,n2.1,n2.2⟩,fun x H3 yx=>?_⟩
  obtain⟨s3,rx⟩:=hy x H3 yx
  refine⟨ρ',τ,ds[i],ρ1,er'.mono s3,rx,e2,fun σ4 H4 s4 er4=>⟨ρ1,τ,o1,er4,e3,fun H5 s5=>?_⟩⟩
  have s15:i9 H1 H5:=s2.trans (s3.trans (s4.trans s5))
  cases o1 with
  | nx ρ2=>exact fun σ6 er6=>⟨hlt,s15,ρ2,er6,e'⟩
  | ct ρ2=>exact fun σ6 er6=>⟨hlt,s15,ρ2,er6,e'⟩
  | bk ρ2=>cases e';exact fun σ6 er6=>q H5 (s1.trans s15) σ6 er6
  | rt d=>cases e';exact q H5 (s1.trans s15)
 ·have e4:i=ds.length:=by omega
  subst e4
  rw[List.drop_length] at e'
  cases e'
  exact .inl ⟨y.2 _ H' (Kp.of s2) (Oo _),q H' (s1.trans s2) σ' er'⟩
end
theorem wn{K:N_}{H:Hp}{N:List Str}{ds:LD}{vs:List V}(r:i8 K H ds vs):se K H (yo N.length ds) (L2.start N vs):=by
 unfold yo L2.start
 refine⟨by simp[r.length],fun i d h=>?_⟩
 by_cases hi:i<ds.length
 ·rw[O4 (by simpa using hi),O6] at h
  obtain⟨d',e1,e⟩:=rW h
  cases e
  obtain⟨v,h1,h2⟩:=r.get e1
  exact⟨v,by rw[O4 (by rw[OK,<- r.length];exact hi),O6,h1];rfl,h2⟩
 ·rw[OT (by simpa using hi),List.getElem?_replicate] at h
  split at h<;>cases h
theorem qM{P:Oh}{w:Ot}{K:N_}{mg:Str->N7 N8}{base:OC}{x qual:Str}{st:OE}{f:N9}{fd:OV}{N ps:List Str}{k:Nat}{F:LD->OD}{g:R->N7 Out}
  (Fn:sr K x qual st f fd) (S:i4 N ps (e9 st)) (hlen:∀ds d,F ds=some d->ds.length=ps.length)
  (hb:∀(cdv:N8) (A:OJ) (outer:List Env) (s:Oa) (H:Hp) (E:XK),rO k (A.deeper (envOfC qual (e9 st) s.heap.objs.size f cdv))->SS (uV rV P w K mg base N qual (e9 st) f cdv A outer s H E).nox (rS st) g)
  (hF:∀ds d,F ds=some d->wM (g (yo N.length ds))=some d):k6 P w K mg base rV (k+1) f fd ps (sQ K F):=by
 refine Fn.ok S (fun vs H Q E h=>?_) (fun cdv A outer s H vs Q E hr h=>?_)
 ·obtain⟨ds,d,r,e,_⟩:=h
  rw[<- r.length]
  exact hlen ds d e
 ·obtain⟨ds,d,r,e,q⟩:=h
  refine⟨_,hb cdv A outer s H E hr,?_⟩
  have z:=hF ds d e
  cases ho:g (yo N.length ds) with
  | none=>rw[ho] at z;cases z
  | some o =>
   rw[ho] at z
   refine⟨yo N.length ds,_,o,(wn r).t,ho,fun H1 s1=>?_⟩
   cases o with
   | rt d'=>cases (show d'=d from Ow z);exact fun v rv=>q v H1 s1 rv
   | nx ρ=>cases (show D.non=d from Ow z);exact fun σ _=>q .non H1 s1 rfl
   | bk ρ=>cases z
   | ct ρ=>cases z
theorem ar{P:Oh}{w:Ot}{K:N_}{mg:Str->N7 N8}{base:OC}{x qual:Str}{st:OE}{f:N9}{fd:OV}{N ps:List Str}{k:Nat}{n m:Nat}{g:R->N7 Out}
  (Fn:sr K x qual st f fd) (S:i4 N ps (e9 st))
  (hb:∀(cdv:N8) (A:OJ) (outer:List Env) (s:Oa) (H:Hp) (E:XK),rO k (A.deeper (envOfC qual (e9 st) s.heap.objs.size f cdv))->SS (uV rV P w K mg base N qual (e9 st) f cdv A outer s H E).nox (rS st) g)
  (h1:n=ps.length:=by rfl) (h2:m=N.length:=by rfl):k6 P w K mg base rV (k+1) f fd ps (sQ K (via n m g)):=by
 subst h1 h2
 exact qM Fn S (fun _ _ h=>mV h) hb fun _ _ h=>qt h
theorem az{P:Oh}{w:Ot}{K:N_}{mg:Str->N7 N8}{base:OC}{x qual:Str}{st:OE}{f:N9}{fd:OV}{ps:List Str}{k:Nat}{F:LD->OD}(Fn:sr K x qual st f fd)(hm:mg x=some (.ref f))
  (hb:Binds K fd ps []) (h:k6 P w K mg base rV k f fd ps (sQ K F)):m9 P w K mg base k x ps F:=⟨f,fd,h,hm,Fn.kp,hb⟩
section
variable{X:Cx}
theorem Fe{prog:Oh}{w:Ot}{A:OJ}{E:N8->Oa->Prop}{s:Oa}{t b:N9}{ws:List N8}{Q:N8->Oa->Prop}(ht:IsTup s.heap t ([]:List N8).toArray)(hb:IsTup s.heap b ws.toArray)
  (h:Q (.ref b) s):wpAny (model prog w) A (binaryOp .Add (.ref t) (.ref b)) Q E s:=by
 obtain⟨⟨cls,dd,data,sl⟩,ho,hc,n,hd⟩:=id ht
 obtain⟨⟨cls2,dd2,data2,sl2⟩,ho2,hc2,n2,hd2⟩:=id hb
 simp only at hc hd hc2 hd2
 subst hc hd hc2 hd2
 exact concat_meets ⟨_,ho,rfl⟩ ⟨_,ho2,rfl⟩ noFill_tuple_add seq_tuple_add PySem.F.slot_tuple_add PySem.F.entry_tuple_add (PySem.F.args_tuple_add_2 _ _)
  (tuple_addW0 t b ([]:List N8).toArray ws.toArray n n2 dd dd2 sl sl2 (by simp)) ⟨ho,ho2,h⟩
theorem uQ{K:N_}{H:Hp}{d:D}{v:V}{i:Int}(e:nI d=some i)(r:Rep K H d v):v=.int i:=by
 cases d<;>cases e
 exact r
theorem KZ{K:N_}{H:Hp}{d:D}{v:V}{xs:LD}(e:tI d=some xs)(r:Rep K H d v):Rep K H (.tup xs) v:=by
 cases d<;>cases e
 exact r
theorem Kt{K:N_}{H:Hp}{d:D}{v:V}{xs:LD}(e:lI d=some xs)(r:Rep K H d v):Rep K H (.lst xs) v:=by
 cases d<;>cases e
 exact r
theorem DH{K:N_}{H:Hp}{d:D}{v:V}{x:Str}(e:sI d=some x)(r:Rep K H d v):v=.str x:=by
 cases d<;>cases e
 exact r
theorem HZ{K:N_}{H:Hp}{d:D}{v:V}{x:Bool}(e:bO d=some x)(r:Rep K H d v):v=.bl x:=by
 cases d<;>cases e
 exact r
theorem Bz{α:Type}{p:Prop}[Decidable p]{x y:α}(h:(if p then some x else none)=some y):p/\x=y:=by
 split at h
 ·rename_i hp;exact⟨hp,Ow h⟩
 ·cases h
theorem aD:JY X (binaryOp .Add) rL:=by
 intro pins s σ H x y v u Q I rx ry h
 obtain⟨dx,dy,d,r1,r2,e,q⟩:=h
 cases dx with
 | int i =>
  obtain⟨j,e1,rfl⟩:=rW e
  exact Jl pins s σ H x y v u Q I rx ry ⟨i,j,r1,uQ e1 r2,q _ H (i9.refl H) rfl⟩
 | tup xs =>
  obtain⟨ys,e1,e⟩:=i5 e
  obtain⟨hz,rfl⟩:=Bz e
  obtain⟨a,vs,rfl,hq,t⟩:=r1
  obtain⟨b,us,rfl,hq2,t2⟩:=KZ e1 r2
  cases vs with
  | nil =>
   cases rx
   cases ry
   obtain⟨its,rr1,p1,_⟩:=I.tuple hq
   obtain⟨its2,rr2,p2,_⟩:=I.tuple hq2
   cases rr1
   refine Fe p1 p2 ⟨.ref b,H,I,rfl,q _ H (i9.refl H) ⟨b,us,rfl,hq2,?_⟩⟩
   cases xs with
   | nil=>exact t2
   | cons x r=>obtain⟨_,_,z,_⟩:=t;cases z
  | cons v0 vr =>
   refine GL pins s σ H _ _ v u Q I rx ry ⟨a,b,v0::vr,us,rfl,rfl,hq,hq2,by simp,by rw[<- t.length,<- t2.length];exact hz,fun z=>?_,fun z p hp=>?_⟩
   ·subst z
    refine q _ H (i9.refl H) ⟨a,v0::vr,rfl,hq,?_⟩
    have:ys=[]:=List.length_eq_zero_iff.mp t2.length
    subst this
    rw[OQ]
    exact t
   ·have s2:=bh hp (.tup (v0::vr++us))
    exact q _ _ s2 ⟨p,_,rfl,vg.of av,(t.append t2).mono s2⟩
 | lst xs =>
  obtain⟨ys,e1,e⟩:=i5 e
  obtain⟨hz,rfl⟩:=Bz e
  obtain⟨a,vs,rfl,hq,t⟩:=r1
  obtain⟨b,us,rfl,hq2,t2⟩:=Kt e1 r2
  refine Iv pins s σ H _ _ v u Q I rx ry ⟨a,b,vs,us,rfl,rfl,hq,hq2,by rw[<- t.length,<- t2.length];exact hz,fun p hp=>?_⟩
  have s2:=bh hp (.lst (vs++us))
  exact q _ _ s2 ⟨p,_,rfl,av,(t.append t2).mono s2⟩
 | str a =>
  obtain⟨b,e1,e⟩:=i5 e
  obtain⟨hz,rfl⟩:=Bz e
  exact Ci pins s σ H x y v u Q I rx ry ⟨a,b,r1,DH e1 r2,hz,q _ H (i9.refl H) rfl⟩
 | _=>cases e
theorem bR:JY X (binaryOp .Sub) uW:=by
 intro pins s σ H x y v u Q I rx ry h
 obtain⟨dx,dy,d,r1,r2,e,q⟩:=h
 obtain⟨i,e1,e⟩:=i5 e
 obtain⟨j,e2,rfl⟩:=rW e
 exact Id pins s σ H x y v u Q I rx ry ⟨i,j,uQ e1 r1,uQ e2 r2,q _ H (i9.refl H) rfl⟩
theorem dg:JY X (binaryOp .Mult) v3:=by
 intro pins s σ H x y v u Q I rx ry h
 obtain⟨dx,dy,d,r1,r2,e,q⟩:=h
 obtain⟨i,e1,e⟩:=i5 e
 obtain⟨j,e2,e⟩:=i5 e
 obtain⟨hz,rfl⟩:=Bz e
 refine Io pins s σ H x y v u Q I rx ry ⟨i,j,uQ e1 r1,uQ e2 r2,?_,q _ H (i9.refl H) rfl⟩
 unfold sv at hz
 rw[Bool.or_eq_true,Oe,Oe] at hz
 exact hz.imp (fun z=>⟨O_ z.1,O_ z.2⟩) fun z=>⟨O_ z.1,O_ z.2⟩
theorem bT:JY X (binaryOp .FloorDiv) uq:=by
 intro pins s σ H x y v u Q I rx ry h
 obtain⟨dx,dy,d,r1,r2,e,q⟩:=h
 obtain⟨i,e1,e⟩:=i5 e
 obtain⟨j,e2,e⟩:=i5 e
 obtain⟨hz,rfl⟩:=Bz e
 exact Ho pins s σ H x y v u Q I rx ry ⟨i,j,uQ e1 r1,uQ e2 r2,hz,q _ H (i9.refl H) rfl⟩
theorem aK:JY X (binaryOp .Mod) r_:=by
 intro pins s σ H x y v u Q I rx ry h
 obtain⟨dx,dy,d,r1,r2,e,q⟩:=h
 obtain⟨i,e1,e⟩:=i5 e
 obtain⟨j,e2,e⟩:=i5 e
 obtain⟨hz,rfl⟩:=Bz e
 exact IK pins s σ H x y v u Q I rx ry ⟨i,j,uQ e1 r1,uQ e2 r2,hz,q _ H (i9.refl H) rfl⟩
theorem qD:Nc X (unaryOp .USub) Lb:=by
 intro pins s σ H x v Q I rx h
 obtain⟨dx,d,r1,e,q⟩:=h
 obtain⟨i,e1,rfl⟩:=rW e
 exact IM pins s σ H x v Q I rx ⟨i,uQ e1 r1,q _ H (i9.refl H) rfl⟩
theorem LI{op:CmpOp}{p:Int->Int->Bool}{F:D->D->N7 Bool}(ho:OpR X (compareOp op) (GJ fun i j=>.bl (p i j)))(hF:∀x y,F x y=(nI x).bind fun i=>(nI y).map fun j=>p i j):B9 X op F:=by
 intro pins s σ H x y v u Q I rx ry h
 obtain⟨dx,dy,b,r1,r2,e,q⟩:=h
 rw[hF] at e
 obtain⟨i,e1,e⟩:=i5 e
 obtain⟨j,e2,rfl⟩:=rW e
 exact ho pins s σ H x y v u Q I rx ry ⟨i,j,uQ e1 r1,uQ e2 r2,q⟩
theorem mT:B9 X .Lt K2:=LI KC fun _ _=>rfl
theorem qo:B9 X .LtE JV:=LI Kr fun _ _=>rfl
theorem f_:B9 X .Gt Cq:=LI Ld fun _ _=>rfl
theorem qr:B9 X .GtE J4:=LI KP fun _ _=>rfl
theorem D9{K:N_}{H:Hp}{d:D}{v:V}{ys:LD}(r:Rep K H d v)(e:FM d=some ys):∃p xs,v=.ref p/\(uJ K H p xs\/vg K H p xs)/\i8 K H ys xs:=by
 cases d with
 | tup ds=>cases e;obtain⟨a,xs,rfl,q,t⟩:=r;exact⟨a,xs,rfl,.inr q,t⟩
 | lst ds=>cases e;obtain⟨a,xs,rfl,q,t⟩:=r;exact⟨a,xs,rfl,.inl (uJ.of q),t⟩
 | fro ds=>cases e;obtain⟨a,xs,rfl,q,t⟩:=r;exact⟨a,xs,rfl,.inl q,t⟩
 | _=>cases e
theorem zg{K:N_}{H:Hp}{d:D}{v:V}(r:Rep K H d v):GF d=decide (v=.non):=by
 cases d with
 | tup c=>obtain⟨_,_,rfl,_⟩:=r;rfl
 | lst c=>obtain⟨_,_,rfl,_⟩:=r;rfl
 | fro c=>obtain⟨_,_,rfl,_⟩:=r;rfl
 | obj k a ks ds=>obtain⟨_,rfl,_⟩:=r;rfl
 | rf a=>cases (show v=_ from r);rfl
 | _=>cases (show v=_ from r);rfl
theorem Ds{K:N_}{H:Hp}{d:D}{v:V}(r:Rep K H d v)(h:GF d=true):v=.non:=by
 rw[zg r] at h
 exact O_ h
theorem fU:B9 X .Is x4:=by
 intro pins s σ H x y v u Q I rx ry h
 obtain⟨dx,dy,b,r1,r2,e,q⟩:=h
 obtain⟨h1,rfl⟩:=Bz e
 exact JB pins s σ H x y v u Q I rx ry ⟨Ds r2 h1,by rw[<- zg r1];exact q⟩
theorem dJ:B9 X .IsNot vF:=by
 intro pins s σ H x y v u Q I rx ry h
 obtain⟨dx,dy,b,r1,r2,e,q⟩:=h
 obtain⟨k,e2,rfl⟩:=rW e
 obtain⟨h1,rfl⟩:=Bz e2
 exact GH pins s σ H x y v u Q I rx ry ⟨Ds r2 h1,by rw[<- zg r1];exact q⟩
theorem iN:IO X (.builtin "len") wB:=AV.imp fun xs H Q ⟨ds,d,r,e,q⟩=>by
 match ds,e with
 | [x],e =>
  obtain⟨ys,e1,e2⟩:=rW e
  subst e2
  obtain⟨v,r',rfl,r1,r2⟩:=r
  cases (show r'=[] from r2)
  obtain⟨p,vs,rfl,hq,t⟩:=D9 r1 e1
  exact⟨p,vs,rfl,hq,q _ H (i9.refl H) (by show V.int _=V.int _;rw[t.length])⟩
theorem oV:IO X (.type "tuple") E6:=zF.imp fun xs H Q ⟨ds,d,r,e,q⟩=>by
 match ds,e with
 | [.tup ys],e =>
  cases e
  obtain⟨v,r',rfl,⟨a,vs,rfl,hq,t⟩,r2⟩:=r
  cases (show r'=[] from r2)
  exact⟨a,vs,rfl,.inr ⟨hq,q _ H (i9.refl H) ⟨a,vs,rfl,hq,t⟩⟩⟩
 | [.lst ys],e =>
  cases e
  obtain⟨v,r',rfl,⟨a,vs,rfl,hq,t⟩,r2⟩:=r
  cases (show r'=[] from r2)
  exact⟨a,vs,rfl,.inl ⟨uJ.of hq,fun l hl=>q _ _ (bh hl _) ⟨l,vs,rfl,vg.of av,t.mono (bh hl _)⟩⟩⟩
theorem pE:IO X (.type "str") CM:=AL.imp fun xs H Q ⟨ds,d,r,e,q⟩=>by
 match ds,e with
 | [.int i],e =>
  have e':(if i.natAbs.log2<1920 then some (D.str (toString i)) else none)=some d:=e
  split at e'
  ·rename_i hz
   cases e'
   obtain⟨v,r',rfl,r1,r2⟩:=r
   cases (show r'=[] from r2)
   cases (show v=_ from r1)
   exact⟨i,rfl,hz,q _ H (i9.refl H) rfl⟩
  ·cases e'
theorem eL{k:Nat}(hr:rO k X.A):B9 X .Eq xK:=by
 intro pins s σ H x y v u Q I rx ry h
 obtain⟨dx,dy,b,r1,r2,e,q⟩:=h
 have sc:GT x y=true->decide (x=y)=b->wpAny (model X.prog X.w) X.A (compareOp .Eq v u) (EP X pins σ Q) X.xe s:=fun z1 z2=>Kh pins s σ H x y v u Q I rx ry ⟨z1,by rw[z2];exact q⟩
 cases dx with
 | int i=>obtain⟨j,e1,e⟩:=rW e;cases (show x=_ from r1);cases uQ e1 r2;exact sc rfl (yH.trans e)
 | str i=>obtain⟨j,e1,e⟩:=rW e;cases (show x=_ from r1);cases DH e1 r2;exact sc rfl (yC.trans e)
 | bl i=>obtain⟨j,e1,e⟩:=rW e;cases (show x=_ from r1);cases HZ e1 r2;exact sc rfl (AI.trans e)
 | _=>cases e
theorem qi{k:Nat}(hr:rO k X.A):B9 X .NotEq Ik:=by
 intro pins s σ H x y v u Q I rx ry h
 obtain⟨dx,dy,b,r1,r2,e0,q⟩:=h
 obtain⟨c,e,rfl⟩:=rW e0
 clear e0
 have sc:GT x y=true->decide (x=y)=c->wpAny (model X.prog X.w) X.A (compareOp .NotEq v u) (EP X pins σ Q) X.xe s:=fun z1 z2=>Lu pins s σ H x y v u Q I rx ry ⟨z1,by rw[z2];exact q⟩
 cases dx with
 | int i=>obtain⟨j,e1,e⟩:=rW e;cases (show x=_ from r1);cases uQ e1 r2;exact sc rfl (yH.trans e)
 | str i=>obtain⟨j,e1,e⟩:=rW e;cases (show x=_ from r1);cases DH e1 r2;exact sc rfl (yC.trans e)
 | bl i=>obtain⟨j,e1,e⟩:=rW e;cases (show x=_ from r1);cases HZ e1 r2;exact sc rfl (AI.trans e)
 | _=>cases e
variable{a:OG}{f:R->OD}{pos p2:Pos}{lo hi:N7 OG}{l h:R->N7 (N7 Int)}
theorem na:SO X none MV:=Hb.imp fun σ H Q ⟨ρ,o,er,e,q⟩=>by
 cases e
 exact q H (i9.refl H)
theorem mC(ha:SE X a f):SO X (some a) (aP f):=(GO ha).imp fun σ H Q ⟨ρ,o,er,e,q⟩=>by
 obtain⟨x,e1,e2⟩:=i5 e
 refine⟨ρ,x,er,e1,fun v H1 s1 r1=>?_⟩
 cases x with
 | int i=>cases e2;exact⟨i,r1,q H1 s1⟩
 | _=>cases e2
theorem Dy(n d:Nat)(o:N7 Int):G5 n d o=HT.sIx n d o:=rfl
theorem zG{prog:Oh}{w:Ot}{A:OJ}{E:N8->Oa->Prop}{s:Oa}{t sl:N9}{items:Array N8}{vl vu:N8}{lo hi:N7 Int}{Q:N8->Oa->Prop}(ht:IsTup s.heap t items)(hs:s.heap.IsSliceOf sl vl vu .none)(pl:IsPart vl lo)(pu:IsPart vu hi)
  (hw:HT.sIx items.size 0 lo=0/\HT.sIx items.size items.size hi=items.size) (h:Q (.ref t) s):wpAny (model prog w) A (getItem (.ref t) (.ref sl)) Q E s:=by
 obtain⟨os,hos,hcs,hds⟩:=id hs
 have hTs:s.TypeIs (.ref sl) "slice":=⟨os,hos,hcs⟩
 unfold getItem
 try with_reducible refine wpAny_holding ?_
 first | refine Ob (Ou ?_) | skip
 refine Ob (wpAny_sequenceKey ht.typeIs (by decide) ?_)
 refine Ob (wpAny_callSpecial?_slot (name:=oS "__getitem__") ht.typeIs PyProof.Rows.slot_tuple_getitem
  (wpAny_call_entry PyProof.Rows.slot_tuple_getitem ht.typeIs entry_tuple_getitem ?_ (args_tuple_getitem _ _)))
 show wpAny _ _ (Builtin.Tuple.tupleItemsOf (.ref t) >>= _) _ _ s
 refine Ob (tupleItemsOf_ ht ?_)
 refine Ob (wpAny_typeOf hTs ?_)
 rw[Of (by decide)]
 refine Ob (HT.sliceApplied_gen hs pl pu ?_)
 have hyes:((((HT.sIx items.size 0 lo:Nat):Int)==0&&(1:Int)==1&&(HT.sIx items.size items.size hi - HT.sIx items.size 0 lo)==items.size)=true):=by
  rw[hw.1,hw.2];simp
 show wpAny _ _ (if (((HT.sIx items.size 0 lo:Nat):Int)==0&&(1:Int)==1&&(HT.sIx items.size items.size hi - HT.sIx items.size 0 lo)==items.size)=true then _ else _) _ _ s
 rw[Of hyes]
 refine Ob (m:=Builtin.Tuple.tupleIsExact _) (Ob (wpAny_typeOf ht.typeIs (Ou ?_)))
 rw[Of (by decide)]
 exact Ob (wpAny_rule (Ou ⟨_,rfl,Ou h⟩))
theorem Cg{xs:List V}{lo hi:N7 Int}(h:HT.sIx xs.length 0 lo=0/\HT.sIx xs.length xs.length hi=xs.length):yn xs lo hi=xs:=by
 unfold yn
 rw[h.1,h.2,List.drop_zero,Nat.sub_zero,List.take_length]
def Mu(K:N_):V->N7 Int->N7 Int->Hp->VK->Prop:=fun x lo hi H Q=>∃a xs,x=.ref a/\vg K H a xs/\∀p H',i9 H H'->vg K H' p (yn xs lo hi)->Q (.ref p) H'
theorem Ih:HG X (Mu X.K):=by
 intro pins s σ H x v vl vu lo hi sl Q I rx hs pl pu h
 obtain⟨a,xs,rfl,hx,q⟩:=h
 by_cases hw:HT.sIx xs.length 0 lo=0/\HT.sIx xs.length xs.length hi=xs.length
 ·cases rx
  obtain⟨its,r,ht,hz⟩:=I.tuple hx
  have hlen:its.toArray.size=xs.length:=by rw[On];exact r.length.symm
  refine⟨"tuple",_,PyProof.Rows.slot_tuple_getitem.lookup,ht.typeIs,?_⟩
  exact zG ht hs pl pu (by rw[hlen];exact hw) ⟨.ref a,H,I,rfl,q a H (i9.refl H) (by rw[Cg hw];exact hx)⟩
 ·exact Jz pins s σ H (.ref a) v vl vu lo hi sl Q I rx hs pl pu ⟨a,xs,rfl,hx,hw,fun p hp=>q p _ (bh hp _) (vg.of av)⟩
theorem mI{K:N_}{H:Hp}{ds:LD}{xs:List V}(t:i8 K H ds xs)(lo hi:N7 Int):i8 K H (cutD ds lo hi) (yn xs lo hi):=by
 unfold cutD yn
 rw[t.length,Dy,Dy]
 exact(t.drop _).take _
theorem kU(ha:SE X a f)(hl:SO X lo l)(hh:SO X hi h):SE X (.Subscript a (.Slice lo hi none p2) pos) (K7 f l h):=(oB (Ih.or GX) ha hl hh).imp fun σ H Q ⟨ρ,d,er,e,q⟩=>by
 obtain⟨x,e1,e⟩:=i5 e
 obtain⟨o1,e2,e⟩:=i5 e
 obtain⟨o2,e3,e⟩:=i5 e
 refine⟨ρ,x,er,e1,fun v H1 s1 r1=>⟨ρ,o1,er.mono s1,e2,fun H2 s2=>⟨ρ,o2,er.mono (s1.trans s2),e3,fun H3 s3=>?_⟩⟩⟩
 cases x with
 | tup xs =>
  cases e
  obtain⟨a,vs,rfl,hq,t⟩:=(r1.mono (s2.trans s3))
  exact .inl ⟨a,vs,rfl,hq,fun p H4 s4 sq=>q _ H4 (s1.trans (s2.trans (s3.trans s4))) ⟨p,_,rfl,sq,(mI t o1 o2).mono s4⟩⟩
 | lst xs =>
  cases e
  obtain⟨a,vs,rfl,hq,t⟩:=(r1.mono (s2.trans s3))
  refine .inr ⟨a,vs,rfl,uJ.of hq,fun p hp=>?_⟩
  have s4:=bh hp (.lst (yn vs o1 o2))
  exact q _ _ (s1.trans (s2.trans (s3.trans s4))) ⟨p,_,rfl,av,(mI t o1 o2).mono s4⟩
 | _=>cases e
theorem kR:∀{xs:List V} {us:List N8},l4 xs us->l4 xs.reverse us.reverse
 | _,_,.nil=>.nil
 | _,_,.cons r t=>by
  rw[List.reverse_cons,List.reverse_cons]
  exact(kR t).append (.cons r .nil)
end
set_option maxHeartbeats 2000000
noncomputable def uf(names:List (Str×NameKind))(cells:List (Str×N9))(acc:List (Str×N9)):List (Str×N9):=
 match names with
 | []=>acc
 | (n,k)::r=>uf r cells (if k==.free then (match cells.lookup n with | some c=>(n,c)::acc | none=>acc) else acc)
theorem wN {env:Env}:∀ (names:List (Str×NameKind)) (acc:List (Str×N9)),(∀ p∈names,p.2=.free->∃ c,env.cells.lookup p.1=some c) ->
    (forIn names acc fun x r=>(match x with
      | (name,kind)=>if (kind==NameKind.free)=true then do
          let c <- cellOf env name
          pure (ForInStep.yield ((name,c)::r))
        else pure (ForInStep.yield r):Sem (ForInStep (List (Str×N9)))))=(pure (uf names env.cells acc):Sem (List (Str×N9)))
  | [],acc,_=>rfl
  | (n,k)::r,acc,h=>by
    rw[List.forIn_cons]
    cases hk:(k==NameKind.free) with
    | false =>
      have ih:=wN r acc fun p hp=>h p (Oy _ hp)
      simp only[hk,uf,Bool.false_eq_true,if_false]
      exact ih
    | true =>
      obtain⟨c,hc⟩:=h (n,k) ON (by simpa using hk)
      have ih:=wN r ((n,c)::acc) fun p hp=>h p (Oy _ hp)
      have hcell:cellOf env n=pure c:=by unfold cellOf;rw[show env.cells.lookup n=some c from hc]
      simp only[hk,uf,if_true,hcell,show env.cells.lookup n=some c from hc]
      exact ih
theorem Cd{scope:Scope}{env:Env}(h:∀p∈scope.names,p.2=.free->∃c,env.cells.lookup p.1=some c):closureFor scope env=pure (uf scope.names env.cells []):=by
 unfold closureFor
 have:=wN scope.names [] h
 simp only[bind_pure]
 exact this
theorem uz{β:Type}{y n:Str}{c:β}{l:List (Str×β)}:List.lookup y ((n,c)::l)=if y=n then some c else List.lookup y l:=by
 rw[List.lookup_cons]
 by_cases h:y=n
 ·subst h;simp
 ·have:(y==n)=false:=by simpa using h
  rw[this,Ov h]
theorem yG{cells:List (Str×N9)}:∀(names:List (Str×NameKind)) (acc:List (Str×N9)),(∀y c,acc.lookup y=some c->cells.lookup y=some c)->∀y c,(uf names cells acc).lookup y=some c->cells.lookup y=some c
 | [],acc,h=>h
 | (n,k)::r,acc,h=>by
  unfold uf
  refine yG r _ ?_
  split
  ·cases hc:cells.lookup n with
   | none=>exact h
   | some c0 =>
    intro y c hy
    rw[uz] at hy
    split at hy
    ·rename_i e
     subst e
     cases hy
     exact hc
    ·exact h y c hy
  ·exact h
theorem z8{cells:List (Str×N9)}{y:Str}:∀(names:List (Str×NameKind)) (acc:List (Str×N9)),(acc.lookup y).isSome=true->((uf names cells acc).lookup y).isSome=true
 | [],acc,h=>h
 | (n,k)::r,acc,h=>by
  unfold uf
  refine z8 r _ ?_
  split
  ·cases hc:cells.lookup n with
   | none=>exact h
   | some c0 =>
    dsimp only
    rw[uz]
    split
    ·rfl
    ·exact h
  ·exact h
theorem BM{cells:List (Str×N9)}{y:Str}{c:N9}(hc:cells.lookup y=some c):∀(names:List (Str×NameKind)) (acc:List (Str×N9)),(y,NameKind.free)∈names->((uf names cells acc).lookup y).isSome=true
 | (n,k)::r,acc,h=>by
  unfold uf
  rcases Oj.mp h with e | h
  ·cases e
   refine z8 r _ ?_
   rw[Of (show(NameKind.free==NameKind.free)=true by decide),hc]
   dsimp only
   rw[uz,Of rfl]
   rfl
  ·exact BM hc r _ h
theorem Gn{cells:List (Str×N9)}{names:List (Str×NameKind)}{y:Str}{c:N9}(hc:cells.lookup y=some c)(h:(y,NameKind.free)∈names):(uf names cells []).lookup y=some c:=by
 obtain⟨c',e⟩:=Option.isSome_iff_exists.mp (BM hc names [] h)
 have:=yG names [] (fun y c h=>by cases h) y c' e
 rw[hc] at this
 cases this
 exact e
theorem zk{env:Env}{y:Str}:∀(names:List (Str×NameKind)),(names.map fun (n,k)=>if (k==NameKind.free&&env.scope.kind==.function&&env.kindOf n==some .cell) then (n,NameKind.cell) else (n,k)).lookup y =
  (names.lookup y).map fun k=>if (k==NameKind.free&&env.scope.kind==.function&&env.kindOf y==some .cell) then NameKind.cell else k
 | []=>rfl
 | (n,k)::r=>by
  have hd:∀(c:Bool),(if c=true then (n,NameKind.cell) else (n,k))=(n,if c=true then NameKind.cell else k):=fun c=>by cases c<;>rfl
  rw[Pb]
  show List.lookup y ((if (k==NameKind.free&&env.scope.kind==.function&&env.kindOf n==some .cell)=true then (n,NameKind.cell) else (n,k))::_)=_
  rw[hd,uz,uz]
  by_cases e:y=n
  ·subst e
   rw[Of rfl,Of rfl]
   rfl
  ·rw[Ov e,Ov e]
   exact zk r
noncomputable def AZ(sc outer:Scope)(T N:List Str):Bool:=
 sc.kind==.function&&(sc.names.all fun p=>p.2 != .cell&&(p.2 != .local||(sc.names.lookup p.1==some .local&&(T.contains p.1||p.1==(".0" : Str))))&&(p.2 != .free||outer.names.lookup p.1==some .cell||outer.names.lookup p.1==some .free)) &&
  (T.all fun t=>sc.names.lookup t==some .local)&&!N.contains (".0" : Str)
structure AY (sc outer:Scope) (T N:List Str):Prop where
 kind:sc.kind=.function
 nocell:∀y∈sc.names,y.2≠.cell
 names:∀y∈sc.names,y.2=.local->sc.names.lookup y.1=some .local
 loc:∀y,sc.names.lookup y=some .local->y∈T\/y=(".0" : Str)
 free:∀y∈sc.names,y.2=.free->outer.names.lookup y.1=some .cell\/outer.names.lookup y.1=some .free
 tg:∀t∈T,sc.names.lookup t=some .local
 no0:(".0" : Str)∉N
theorem DV{sc outer:Scope}{T N:List Str}(h:AZ sc outer T N=true):AY sc outer T N:=by
 unfold AZ at h
 rw[Oe,Oe,Oe] at h
 obtain⟨⟨⟨h1,h2⟩,h3⟩,h4⟩:=h
 rw[Oz] at h2 h3
 have g:∀y∈sc.names,y.2≠.cell/\(y.2=.local->sc.names.lookup y.1=some .local/\(y.1∈T\/y.1=(".0" : Str)))/\(y.2=.free->outer.names.lookup y.1=some .cell\/outer.names.lookup y.1=some .free):=fun y hy=>by
  have q:=h2 y hy
  rw[Oe,Oe] at q
  obtain⟨⟨q1,q2⟩,q3⟩:=q
  refine⟨by simpa using q1,fun hl=>?_,fun hf=>?_⟩
  ·rw[hl] at q2
   simpa using q2
  ·rw[hf] at q3
   simpa using q3
 refine⟨by simpa using h1,fun y hy=>(g y hy).1,fun y hy hl=>((g y hy).2.1 hl).1,fun y hy=>?_,fun y hy hf=>(g y hy).2.2 hf,fun t ht=>by simpa using h3 t ht,by simpa using h4⟩
 exact((g (y,.local) (O0 hy)).2.1 rfl).2
def A_(X:Cx)(T:List Str)(scope:Scope)(C:N9)(fp:List N9)(s₃:Oa)(H₃:Hp):Cx where
 prog:=X.prog
 w:=X.w
 K:=X.K
 mg:=X.mg
 base:=X.base
 A:=X.A
 N:=T++X.N
 s₀:=s₃
 H₀:=H₃
 env:=compEnvC scope (uf scope.names X.env.cells []) C X.env
 outer:=X.stack
 stack:=X.stack
 ex:=fp
 fn:=fun _=>false
 calm:=X.calm
 pn:=[]
 xe:=fun _ _=>False
section
variable{X:Cx}{pins:List (N9×Obj)}{σ:L2.St}{H:Hp}{s:Oa}{T:List Str}{scope:Scope}{C:N9}{fp:List N9}{h₁:OC}{t:Nat}
theorem EI(I:L2.Inv X pins σ H s)(ck:AY scope X.env.scope T X.N)(hnd:(T++X.N).Nodup)(hf:∀b∈fp,xo X pins H b)(hfo:∀b∈fp,∃o,s.heap.get? b=some o)(hC:s.heap.objs.size<=C)
  (hk:∀b u,s.heap.get? b=some u->h₁.get? b=some u) (hns:h₁.Ns C (fun _=>none)) :
  L2.Inv (A_ X T scope C fp s H) [] (List.replicate T.length none++σ) H {s with heap:=h₁,toks:=t}:=by
 have hlt:∀b∈fp,b<s.heap.objs.size:=fun b hb=>let ⟨o,e⟩:=hfo b hb;Om e
 have hcl:∀y c,(uf scope.names X.env.cells []).lookup y=some c->X.env.cells.lookup y=some c:=yG scope.names [] fun y c h=>by cases h
 have hfr:∀y,(y,NameKind.free)∈scope.names->(X.env.kindOf y=some .cell\/X.env.kindOf y=some .free)/\∃c,(uf scope.names X.env.cells []).lookup y=some c/\X.env.cells.lookup y=some c:=fun y hy=>by
  have k:=ck.free _ hy rfl
  obtain⟨c,hc⟩:=I.ok.has y k
  exact⟨k,c,Gn hc hy,hc⟩
 have hkind:∀y,(compEnvC scope (uf scope.names X.env.cells []) C X.env).kindOf y=(scope.names.lookup y).map fun k=>if (k==NameKind.free&&X.env.scope.kind==.function&&X.env.kindOf y==some .cell) then NameKind.cell else k:=fun y=>zk scope.names
 have hvis:∀y,((compEnvC scope (uf scope.names X.env.cells []) C X.env).kindOf y=some .cell\/(compEnvC scope (uf scope.names X.env.cells []) C X.env).kindOf y=some .free)->(y,NameKind.free)∈scope.names:=fun y hy=>by
  rw[hkind] at hy
  cases hl:scope.names.lookup y with
  | none=>rw[hl] at hy;rcases hy with z | z<;>cases z
  | some k =>
   have hm:=O0 hl
   rw[hl] at hy
   cases k with
   | free=>exact hm
   | cell=>exact OA rfl (ck.nocell _ hm)
   | «local»=>rcases hy with z | z<;>cases z
   | globalExplicit=>rcases hy with z | z<;>cases z
   | globalImplicit=>rcases hy with z | z<;>cases z
 refine⟨⟨I.ok.mod,ck.kind,I.ok.glob,I.ok.blt,hC,fun x y c h1 h2=>I.ok.inj x y c (hcl x c h1) (hcl y c h2),fun y hy=>?_,fun y c h=>OA (show false=true from h) Oi,I.ok.hd,I.ok.frames,.inl rfl,fun b hb=>⟨?_,fun x c h=>?_⟩,I.bs,
  OH I.ok.bsz I.sz,fun b o e hb=>?_,fun b hb hz=>?_,I.stack,I.stkFree⟩,rfl,I.bare,Un.kept hk,⟨_,hns,fun i x v h1 h2 h3=>?_⟩,fun y c h=>?_,I.hok.fresh hC,fun y c h=>I.freeC y c (hcl y c h),fun p hp=>OA (show p∈([]:List (N9×Obj)) from hp) (by simp),I.hok.kept hk,?_⟩
 ·obtain⟨_,c,h1,_⟩:=hfr y (hvis y hy)
  exact⟨c,h1⟩
 ·exact OL (Ol (hlt b hb) hC)
 ·exact(hf b hb).2.2.2.2.1 x c (hcl x c h)
 ·rcases(hf b hb).2.2.2.1 with z | z
  ·exact I.ok.noex b o e z
  ·exact OA (Ol (Om e) (OH I.ok.bsz z)) (OX _)
 ·rcases Oj.mp (I.stkSub b hz) with z | z
  ·exact(hf b hb).2.1 z
  ·exact(hf b hb).2.2.1 z
 ·by_cases hi:i<T.length
  ·rw[O4 (by simpa using hi),List.getElem?_replicate] at h2
   split at h2<;>cases h2
  ·rw[OT (by simpa using hi),List.length_replicate] at h2
   have h1':X.N[i - T.length]?=some x:=by
    have z:(T++X.N)[i]?=some x:=h1
    rw[OT (by omega)] at z
    exact z
   have hxN:x∈X.N:=O7 h1'
   have hxf:(x,NameKind.free)∈scope.names:=by
    rcases h3 with z | z | z
    ·have z':(compEnvC scope (uf scope.names X.env.cells []) C X.env).kindOf x=some .local:=z
     rw[hkind] at z'
     cases hl:scope.names.lookup x with
     | none=>rw[hl] at z';cases z'
     | some k =>
      rw[hl] at z'
      have hkl:k=.local:=by
       cases k with
       | «local»=>rfl
       | free=>simp at z';split at z'<;>cases z'
       | cell=>cases z'
       | globalExplicit=>cases z'
       | globalImplicit=>cases z'
      subst hkl
      rcases ck.loc x hl with q | q
      ·exact OA rfl ((List.nodup_append.mp hnd).2.2 x q x hxN)
      ·exact OA (q ▸ hxN) ck.no0
    ·exact hvis x (.inl z)
    ·exact hvis x (.inr z)
   obtain⟨hk2,c,hc1,hc2⟩:=hfr x hxf
   obtain⟨m,hm,hl⟩:=I.loc
   obtain⟨u,ru,lk⟩:=hl _ x v h1' h2 (hk2.elim (fun z=>.inr (.inl z)) fun z=>.inr (.inr z))
   refine⟨u,ru,.inr ⟨?_,c,hc1,?_⟩⟩
   ·rcases h3 with z | z | z
    ·exfalso
     have z':(compEnvC scope (uf scope.names X.env.cells []) C X.env).kindOf x=some .local:=z
     rw[hkind] at z'
     cases hl2:scope.names.lookup x with
     | none=>rw[hl2] at z';cases z'
     | some k =>
      rw[hl2] at z'
      have hkl:k=.local:=by
       cases k with
       | «local»=>rfl
       | free=>simp at z';split at z'<;>cases z'
       | cell=>cases z'
       | globalExplicit=>cases z'
       | globalImplicit=>cases z'
      subst hkl
      rcases ck.loc x hl2 with q | q
      ·exact OA rfl ((List.nodup_append.mp hnd).2.2 x q x hxN)
      ·exact OA (q ▸ hxN) ck.no0
    ·exact .inl z
    ·exact .inr z
   ·rcases lk with ⟨kl,_⟩ | ⟨_,c',hc',hcell⟩
    ·rcases hk2 with z | z
     ·rw[kl] at z;cases z
     ·rw[kl] at z;cases z
    ·rw[hc2] at hc'
     cases hc'
     obtain⟨o,ho,hd⟩:=hcell
     exact⟨o,hk _ _ ho,hd⟩
 ·obtain⟨v,o,ho,hd⟩:=I.cell y c (hcl y c h)
  exact⟨v,o,hk _ _ ho,hd⟩
 ·show(List.replicate T.length none++σ).length=(T++X.N).length
  rw[OW,OW,List.length_replicate,I.len]
end
theorem AF {prog:Oh} {w:Ot} {A:OJ} {R':Result->Oa->Prop} {s:Oa} {elt target iter:OG} {ifs:List OG} {scope:Scope} {pos:Pos} {it acc:N8} {env:Env} (I:Nat->Oa->Prop)
    (turn:∀n s,I n s->wpAny (model prog w) A (pyNext it) (fun r s₁=>match r with
      | none=>R' (.ok .next) s₁
      | some v=>wpAny (model prog w) A (letOwnedTupleGo target it v) (fun _ s₁'=>wpAny (model prog w) A (assign target env v) (fun _ s₂ =>
          wpAny (model prog w) A (forIn ifs true fun c r=>if r=true then do let ok <- isTrue c env (eval c env);pure (ForInStep.yield ok) else pure (ForInStep.yield r)) (fun ok s₃ =>
            if ok=true then wpAny (model prog w) A (eval elt env) (fun x s₄ =>
              wpAny (model prog w) A (call (.builtin "list.append") [acc,x]) (fun _ s₅=>∃m,m<n/\I m s₅) (fun _ _=>False) s₄) (fun _ _=>False) s₃
            else ∃m,m<n/\I m s₃) (fun _ _=>False) s₂) (fun _ _=>False) s₁') (fun _ _=>False) s₁) (fun _ _=>False) s)
    (n:Nat) (h:I n s):codeAny (model prog w) A (.compLoop (.ListComp elt [⟨target,iter,ifs,0⟩] scope pos) 0 it acc env) R' s:=by
  refine codeAny_loop rfl I (fun n s hI=>?_) n h
  show wpAny _ A ((compTurn (.ListComp elt [⟨target,iter,ifs,0⟩] scope pos) 0 it acc env).onRaise (fun x=>do noteFrame x env;theTreesLotGoes x)) _ _ s
  refine wpAny_noted ?_
  rw[compTurn_list]
  have ff:∀{E:N8->Oa->Prop} (a:N8) (s:Oa),False->E a s:=fun _ _ z=>z.elim
  refine Ob (wpAny_standAt (Ob (Pe (turn n s hI) (fun r s₁ h₁=>?_) ff)))
  cases r with
  | none=>exact Ou h₁
  | some v =>
    refine Ob (Pe h₁ (fun _ s₁' h₁'=>?_) ff)
    refine Ob (Pe h₁' (fun _ s₂ h₂=>Ob (Pe h₂ (fun ok s₃ h₃=>?_) ff)) ff)
    cases ok with
    | false=>exact Ou ⟨rfl,h₃⟩
    | true =>
      exact Ob (Ob (Pe h₃ (fun x s₄ h₄=>Ob (Pe h₄ (fun _ s₅ h₅=>Ou (Ou ⟨rfl,h₅⟩)) ff)) ff))
def LY(X:Cx)(ifs:List OG)(c:R->N7 Bool):Prop:=
 ∀(pins:List (N9×Obj)) (s:Oa) (σ:L2.St) (H:Hp) (Q:Bool->Hp->Prop),L2.Inv X pins σ H s->Kz X.K c σ H Q ->
  wpAny (model X.prog X.w) X.A (forIn ifs true fun c r=>if r=true then do let ok <- isTrue c X.env (eval c X.env);pure (ForInStep.yield ok) else pure (ForInStep.yield r)) (TP X pins σ Q) X.xe s
theorem pw{X:Cx}:LY X [] Ay:=fun pins s σ H Q I ⟨ρ,b,er,e,q⟩=>by
 cases e
 exact wpAny_tests_nil ⟨H,I,q H (i9.refl H)⟩
section
variable{X:Cx}{pins:List (N9×Obj)}{σ:L2.St}{H:Hp}{s:Oa}{T:List Str}{scope:Scope}
def Ft(k:Nat)(stf:D->R->N7 R):Prop:=∀(d:D) (τ ρ ρ1:R),τ.length=k->stf d (τ++ρ)=some ρ1->∃ τ',τ'.length=k/\ρ1=τ'++ρ
theorem z6{k i:Nat}(h:i<k):Ft k (setAt i):=fun d τ ρ ρ1 hl e=>by
 unfold setAt at e
 split at e
 ·cases e
  exact⟨τ.set i (some d),by simp[hl],List.set_append_left _ _ (by omega)⟩
 ·cases e
theorem se.forget{K:N_}{H:Hp}{τ ρ:R}{σ:L2.St}(e:se K H (τ++ρ) σ):se K H (List.replicate τ.length none++ρ) σ:=by
 refine⟨by have:=e.1;simpa using this,fun i d h=>?_⟩
 by_cases hi:i<τ.length
 ·rw[O4 (by simpa using hi),List.getElem?_replicate] at h
  split at h<;>cases h
 ·rw[OT (by simpa using hi),List.length_replicate] at h
  exact e.2 i d (by rw[OT (by omega)];exact h)
theorem Ln{a:N9}{o:HO}(I:L2.Inv X pins σ H s)(f:xo X pins H a)(new:tK X.prog X.w (upd H a o) s.heap a o):L2.Inv X pins σ (upd H a o) s:=by
 obtain⟨f0,f1,f2,f3,f4,f5⟩:=f
 have ne:∀{b:N9} {u:HO},H b=some u->b≠a:=fun e z=>by rw[z,f0] at e;cases e
 refine⟨I.ok,I.os,I.bare,⟨I.base.keep,I.base.slot,fun b ob e n hx=>?_,I.base.there,fun b xs e=>?_,fun b ob u ny e=>?_,fun b ps d e=>?_⟩,I.loc,I.cell,?_,fun x c e=>?_,fun p hp=>?_,fun b u e=>?_,I.len⟩
 ·have hb:b≠a:=fun z=>by
   rcases f3 with q | q
   ·exact hx (z ▸ q)
   ·exact OA (Ol (Om e) (z ▸ q)) (OX _)
  rw[aq hb]
  exact I.base.free b ob e n hx
 ·have q:=I.base.tups b xs e
  rw[aq (ne q)]
  exact q
 ·have q:=I.base.frzs b ob u ny e
  rw[aq (ne q)]
  exact q
 ·have q:=I.base.tbls b ps d e
  rw[aq (ne q)]
  exact q
 ·rw[aq (Ne.symm f1)]
  exact I.free
 ·rw[aq (f4 x c e)]
  exact I.freeC x c e
 ·obtain⟨q1,q2,q3⟩:=I.pin p hp
  exact⟨q1,by rw[aq (f5 p hp)];exact q2,q3⟩
 ·by_cases hb:b=a
  ·subst hb
   rw[av] at e
   cases e
   exact new
  ·rw[aq hb] at e
   refine(I.hok b u e).stay (fun _ _ _ q=>q) (fun c q=>?_) (fun c xs q=>?_) fun c _ _ q=>?_
   ·rw[aq (ne q)];exact q
   ·rw[aq (ne q)];exact q
   ·rw[aq (ne q)];exact q
theorem HQ{C:N9}{fp:List N9}{s₃:Oa}{H₃ H':Hp}{b:N9}{pl:List (N9×Obj)}(hb:b∈fp\/s₃.heap.objs.size<=b)(hC:b≠C)(hfs:b∉vf X.stack)(hcells:∀x c,(uf scope.names X.env.cells []).lookup x=some c->c≠b)(hn:H' b=none)(hp:∀p∈pl,p.1≠b) :
  xo (A_ X T scope C fp s₃ H₃) pl H' b:=⟨hn,hC,hfs,hb,hcells,fun p hp'=>hp p hp'⟩
theorem pj{elt iter tg:OG}{ifs:List OG}{pos:Pos}{it:N9}{fp:List N9}{tn:Nat->OC->Prop}{J:It}{E:N8->Oa->Prop}{ρ:R}{ds out:LD}{stf:D->R->N7 R}{cf:R->N7 Bool}{ef:R->OD}
  (I:L2.Inv X pins σ H s) (hc:X.calm=true) (Tn:Turn X.prog X.w X.K tg J fp it tn) (st:tn 0 s.heap) (hf:∀b∈fp,xo X pins H b)
  (ck:AY scope X.env.scope T X.N) (hnd:(T++X.N).Nodup) (hst:Ft T.length stf) (er:se X.K H ρ σ) (y:vX X.K J ds H) (hz:ds.length<=sizeLine) (hout:xH stf cf ef ds (List.replicate T.length none++ρ)=some out)
  (hg:∀C s₃ H₃ fp,SG (A_ X T scope C fp s₃ H₃) tg stf) (hcnd:∀C s₃ H₃ fp,LY (A_ X T scope C fp s₃ H₃) ifs cf) (he:∀C s₃ H₃ fp,SE (A_ X T scope C fp s₃ H₃) elt ef)
  {RR:N8->N9->Result->Oa->Prop}
  (hRR:∀(a C:N9) (H':Hp) (s':Oa) (vs:List V),i9 H H'->H' a=some (.lst vs)->i8 X.K H' out vs->L2.Inv X pins σ H' s'->xo X pins H' C->(∃m,s'.heap.Ns C m)->RR (.ref a) C (.ok .next) s') :
  wpAny (model X.prog X.w) X.A (newList []) (fun acc s₃=>wpAny (model X.prog X.w) X.A (newFunctionEnv scope X.env.globals (uf scope.names X.env.cells []) [] X.env.qual none .none (some X.env)) (fun cenv s₄ =>
   codeAny (model X.prog X.w) X.A (.compStart (.ListComp elt [⟨tg,iter,ifs,0⟩] scope pos) 0 (.ref it) acc {cenv with scope:=relabel scope X.env}) (RR acc cenv.locals) s₄) E s₃) E s:=by
 refine Pd (wpAny_newFunctionEnv ck.nocell (by intro y hy;simp at hy) (fun h₁ hns₁ hsb₁=>?_) ck.kind)
 dsimp only at hns₁ hsb₁ ⊢
 generalize hH2:s.heap.push {cls:=.type "list",dict:=none,data:=.seq ([]:List N8).toArray}=H2 at hns₁ hsb₁ ⊢
 generalize ha:s.heap.objs.size=a at *
 generalize hCe:H2.objs.size=C at hns₁ hsb₁ ⊢
 have hC:C=a+1:=by rw[<- hCe,<- hH2,Heap.size_push,ha]
 have haC':a<C:=by rw[hC];exact Po a
 have haC:a≠C:=OL haC'
 have hle:s.heap.objs.size<=a:=Nat.le_of_eq ha
 have hCle:s.heap.objs.size<=C:=OH hle (Nat.le_of_lt haC')
 have hlta:∀{b:N9} {o:Obj},s.heap.get? b=some o->b<a:=fun e=>Ol (Om e) hle
 have old:∀b o,s.heap.get? b=some o->h₁.get? b=some o:=fun b o e=>hsb₁.extBut b o (OL (Nat.lt_trans (hlta e) haC')) (Og _ (hH2 ▸ Og _ e))
 have hacc:h₁.get? a=some {cls:=.type "list",data:=.seq ([]:List N8).toArray}:=hsb₁.extBut _ _ haC (Og _ (hH2 ▸ (ha ▸ Ox _ rfl)))
 have hfo:∀b∈fp,∃o,s.heap.get? b=some o:=fun b hb=>let ⟨o,e,_⟩:=Tn.obj 0 _ st b hb;⟨o,e⟩
 have hlt:∀b∈fp,b<a:=fun b hb=>let ⟨o,e⟩:=hfo b hb;hlta e
 have hns:h₁.Ns C (fun _=>none):=hns₁
 have I0:L2.Inv (A_ X T scope C fp s H) [] (List.replicate T.length none++σ) H {s with heap:=h₁,toks:=s.toks+([]:List (Str×N8)).length}:=EI I ck hnd hf hfo hCle old hns
 have hcl:∀y c,(uf scope.names X.env.cells []).lookup y=some c->X.env.cells.lookup y=some c:=yG scope.names [] fun y c h=>by cases h
 have hfs:∀b,a<=b->b∉vf X.stack:=fun b hb hz=>by
  rcases Oj.mp (I.stkSub b hz) with z | z
  ·exact OA (Ol I.lt (OH hle (z ▸ hb))) (OX _)
  ·exact I.nofs (OH hle hb) z
 have hcells:∀b,a<=b->∀x c,(uf scope.names X.env.cells []).lookup x=some c->c≠b:=fun b hb x c h z=>by
  obtain⟨v,q⟩:=I.cell x c (hcl x c h)
  exact OA (Ol q.lt (OH hle (z ▸ hb))) (OX _)
 have hfpok:∀{H':Hp} {pl:List (N9×Obj)},(∀b∈fp,H' b=none)->(∀p∈pl,p.1∉fp)->∀b∈fp,xo (A_ X T scope C fp s H) pl H' b:=fun {H' pl} hn hp b hb =>
  HQ (.inl hb) (OL (Nat.lt_trans (hlt b hb) haC')) (I0.ok.exfs b hb) (fun x c h=>(I0.ok.exf b hb).2 x c h) (hn b hb) fun p hp' z=>hp p hp' (z ▸ hb)
 have hAok:∀{H':Hp},H' a=none->∀b ∈ [a],xo (A_ X T scope C fp s H) [] H' b:=fun {H'} hn b hb=>by
  cases Od.mp hb
  exact HQ (.inr hle) haC (hfs a (Oo _)) (hcells a (Oo _)) hn fun p hp=>OA hp (by simp)
 have hAfp:a∉fp:=fun z=>OX _ (hlt a z)
 have loop:codeAny (model X.prog X.w) X.A (.compLoop (.ListComp elt [⟨tg,iter,ifs,0⟩] scope pos) 0 (.ref it) (.ref a) (compEnvC scope (uf scope.names X.env.cells []) C X.env))
   (RR (.ref a) C) {s with heap:=h₁,toks:=s.toks+([]:List (Str×N8)).length}:=by
  refine AF (fun n s'=>∃i σ' H' vs its k done rest,n=ds.length - i/\i<=ds.length/\L2.Inv (A_ X T scope C fp s H) [] σ' H' s'/\tn i s'.heap/\(∀b∈fp,H' b=none)/\H' a=none/\i9 H H' /\
   s'.heap.get? a=some {cls:=.type "list",data:=.seq (its:List N8).toArray k}/\l4 vs its/\i8 X.K H' done vs/\vs.length<=i/\se X.K H' (List.replicate T.length none++ρ) σ' /\
   xH stf cf ef (ds.drop i) (List.replicate T.length none++ρ)=some rest/\out=done++rest) ?_ ds.length
   ⟨0,_,H,[],[],0,[],out,by omega,Pg _,I0,Tn.keep _ _ _ st (fun b hb o e=>old b o e),fun b hb=>(hf b hb).1,I.hok.fresh hle,i9.refl H,hacc,.nil,rfl,Pg _,er.front T.length (List.replicate T.length none) (by simp),by simpa using hout,rfl⟩
  rintro n s' ⟨i,σ',H',vs,its,k,done,rest,rfl,hi,I',st',hn',hna,sm,ho,hv,hrd,hvl,er',hrest,hsum⟩
  have Ip:=I'.pinned (fp:=[a]) (hAok hna) fun b hb=>by
   cases Od.mp hb
   exact⟨_,ho,fun v z=>by cases z⟩
  generalize hP:([]:List (N9×Obj))++wQ [a] s'.heap=P at Ip
  have hPm:(a,({cls:=.type "list",data:=.seq its.toArray k}:Obj))∈P:=by rw[<- hP];exact OM _ (cZ (by simp) ho)
  have hPa:∀p∈P,p.1∉fp:=fun p hp z=>by
   rw[<- hP] at hp
   obtain⟨q,_⟩:=Ah hp
   rw[Od.mp q] at z
   exact hAfp z
  by_cases hlt':i<ds.length
  ·have hd:ds[i]?=some ds[i]:=by simp[hlt']
   obtain⟨hgo,hy⟩:=y.1 i ds[i] H' (Kp.of sm) hd
   rw[Ph hlt'] at hrest
   obtain⟨ρ1,e1,hrest⟩:=i5 hrest
   obtain⟨b,e2,hrest⟩:=i5 hrest
   obtain⟨o,e3,hrest⟩:=i5 hrest
   obtain⟨rest',e4,e5⟩:=rW hrest
   obtain⟨τ,hτ,hρ1⟩:=hst ds[i] (List.replicate T.length none) ρ ρ1 (by simp) e1
   refine sh (Tn.item (A_ X T scope C fp s H) rfl rfl rfl hc i P s' σ' H' (fun _ _=>False) Ip (hfpok hn' hPa) st' hgo) fun r s1 ⟨u,hr,h4⟩=>?_
   subst hr
   refine sh h4 fun _ s2 ⟨x,H2',I2,r2,y2,st2,fr2⟩=>?_
   obtain⟨s12,rx⟩:=hy x H2' y2
   have I3:=I2.pinned (fp:=fp) (hfpok fr2 hPa) (Tn.obj _ _ st2)
   refine sh (hg C s H fp _ s2 σ' H2' x u (fun σ3 H3=>i9 H2' H3/\se X.K H3 ρ1 σ3) I3 r2 ⟨_,_,ds[i],ρ1,(er'.mono s12).t,rx,e1,fun σ3 H3 s3 er3=>⟨s3,er3.1⟩⟩) fun _ s3 ⟨σ3,H3,I4,s23,er3⟩=>?_
   refine sh (hcnd C s H fp _ s3 σ3 H3 (fun b' H4=>b'=b/\i9 H3 H4) I4 ⟨ρ1,b,er3,e2,fun H4 s4=>⟨rfl,s4⟩⟩) fun b' s4 ⟨H4,I5,hb',s34⟩=>?_
   subst hb'
   have fin:∀{H5:Hp} {s5:Oa},L2.Inv (A_ X T scope C fp s H) (P++wQ fp s2.heap) σ3 H5 s5->(∀b∈fp,H5 b=none)/\H5 a=none/\s5.heap.get? a=some {cls:=.type "list",data:=.seq its.toArray k}/\(∀b∈fp,∀o,s2.heap.get? b=some o->s5.heap.get? b=some o):=fun {H5 s5} I6=>by
    refine⟨fun b hb=>?_,(I6.pin _ (OM _ (O3 _ hPm))).2.1,(I6.pin _ (OM _ (O3 _ hPm))).1,fun b hb o e=>(I6.pin (b,o) (OM _ (OM _ (cZ hb e)))).1⟩
    obtain⟨o,e,_⟩:=Tn.obj _ _ st2 b hb
    exact(I6.pin (b,o) (OM _ (OM _ (cZ hb e)))).2.1
   have unpin:∀{H5:Hp} {s5:Oa},L2.Inv (A_ X T scope C fp s H) (P++wQ fp s2.heap) σ3 H5 s5->L2.Inv (A_ X T scope C fp s H) [] σ3 H5 s5:=fun I6=>I6.pins_of fun p hp=>OA hp (by simp)
   have erb:∀{H5:Hp},i9 H3 H5->se X.K H5 (List.replicate T.length none++ρ) σ3:=fun s5=>by
    have z:=er3.mono s5
    rw[hρ1] at z
    have z2:=z.forget
    rw[hτ] at z2
    exact z2
   cases b' with
   | false =>
    cases e3
    rw[Ov Oi]
    obtain⟨q1,q2,q3,q4⟩:=fin I5
    have sm4:i9 H H4:=sm.trans (s12.trans (s23.trans s34))
    have smr:i9 H' H4:=s12.trans (s23.trans s34)
    exact⟨ds.length - (i+1),by omega,i+1,σ3,H4,vs,its,k,done,rest',rfl,hlt',unpin I5,Tn.keep _ _ _ st2 q4,q1,q2,sm4,q3,hv,hrd.mono smr,Nat.le_succ_of_le hvl,erb s34,e4,by rw[hsum,<- e5]⟩
   | true =>
    rw[Of rfl] at e3 ⊢
    obtain⟨yv,e6,e7⟩:=rW e3
    subst e7
    refine sh (he C s H fp _ s4 σ3 H4 (fun v H5=>i9 H4 H5/\Rep X.K H5 yv v) I5 ⟨ρ1,yv,er3.mono s34,e6,fun v H5 s5 r5=>⟨s5,r5⟩⟩) fun xv s5 ⟨v,H5,I6,rv,s45,ry⟩=>?_
    obtain⟨q1,q2,q3,q4⟩:=fin I6
    have hl:=hv.length
    refine call_meets F.slot_list_append ⟨_,q3,rfl⟩ F.entry_list_append (F.args_list_append_2 _ _) (PySem.list_append a its.toArray k xv (by rw[On];omega)) ⟨q3,?_⟩
    have q:=PySem.IsL.update q3 (fun xs=>xs.push xv)
    have sm5:i9 H H5:=sm.trans (s12.trans (s23.trans (s34.trans s45)))
    have smr:i9 H' H5:=s12.trans (s23.trans (s34.trans s45))
    have I7:L2.Inv (A_ X T scope C fp s H) [] σ3 H5 {s5 with heap:=s5.heap.update a (Obj.mapSeq fun xs=>xs.push xv),toks:=s5.toks}:=
     (unpin I6).turned (it:=a) (t':=s5.toks) (fun b ob hb hu=>(OY s5.heap _ (Ne.symm hb)).trans hu) q2 haC (.inr hle) (hcells a (Oo _)) fun p hp=>OA (show p∈([]:List (N9×Obj)) from hp) (by simp)
    refine⟨ds.length - (i+1),by omega,i+1,σ3,H5,vs++[v],its++[xv],(if (its.toArray.push xv).size==its.toArray.size then k else k+1),done++[yv],rest',rfl,hlt',I7,Tn.keep _ _ _ st2 fun b hb ob e=>?_,q1,q2,sm5,?_,hv.append (.cons rv .nil),(hrd.mono smr).append (i8.one ry),by simp;omega,erb (s34.trans s45),e4,by rw[hsum,<- e5];simp⟩
    ·have hne:b≠a:=fun z=>hAfp (z ▸ hb)
     exact(OY s5.heap _ (Ne.symm hne)).trans (q4 b hb ob e)
    ·have z:its.toArray.push xv=(its++[xv]).toArray:=by simp
     rw[<- z]
     exact q
  ·have ei:i=ds.length:=by omega
   subst ei
   rw[List.drop_length] at hrest
   cases hrest
   rw[OQ] at hsum
   subst hsum
   refine sh (Tn.done (A_ X T scope C fp s H) rfl rfl rfl hc ds.length P s' σ' H' (fun _ _=>False) Ip (hfpok hn' hPa) st' (y.2 _ H' (Kp.of sm) (Oo _))) fun r s1 ⟨hr,I1⟩=>?_
   subst hr
   have ho1:=(I1.pin _ (OM _ hPm)).1
   have IX:L2.Inv X pins σ H' s1:=I.call' (ch:=fp) I1.os I1.base I1.hok I1.bare fun b hb=>⟨(hf b hb).2.2.2.1,(hf b hb).2.1,(hf b hb).2.2.2.2.1,(hf b hb).2.2.2.2.2⟩
   have fA:xo X pins H' a:=I.fpOk hle hna
   have s2:=bh hna (.lst vs)
   refine hRR a C (upd H' a (.lst vs)) s1 vs (sm.trans s2) av (hrd.mono s2) (Ln IX fA ⟨OH hvl hz,its,k,hv,ho1⟩) (I.fpOk hCle ?_) (let ⟨m,q,_⟩:=I1.loc;⟨m,q⟩)
   rw[aq (Ne.symm haC)]
   exact I1.free
 exact codeAny_compStart_list loop (Tn.self _ _ _ _ _ (Tn.keep _ _ _ st fun b hb o e=>old b o e) loop)
variable{elt iter tg:OG}{ifs:List OG}{pos p2:Pos}{itf:R->N7 LD}{stf:D->R->N7 R}{cf:R->N7 Bool}{ef:R->OD}
theorem nM(I:L2.Inv X pins σ H s)(ck:AY scope X.env.scope T X.N):closureFor scope X.env=pure (uf scope.names X.env.cells []):=Cd fun p hp hf=>I.ok.has p.1 (ck.free p hp hf)
theorem ql(hc:X.calm=true)(hi:SI X tg iter itf)(hg:∀C s₃ H₃ fp,SG (A_ X T scope C fp s₃ H₃) tg stf)(hcnd:∀C s₃ H₃ fp,LY (A_ X T scope C fp s₃ H₃) ifs cf)(he:∀C s₃ H₃ fp,SE (A_ X T scope C fp s₃ H₃) elt ef)
  (hst:Ft T.length stf) (hnd:(T++X.N).Nodup) (ck:AZ scope X.env.scope T X.N=true:=by rfl) (hs:∀x,foldedSetIterable iter X.env x=pure x:=by intro _;rfl) :
  SE X (.ListComp elt [⟨tg,iter,ifs,0⟩] scope pos) (JN T.length itf stf cf ef):=by
 intro pins s σ H Q I hw
 obtain⟨ρ,d,er,e,q⟩:=hw
 obtain⟨ds,e1,e⟩:=i5 e
 have ck':=DV ck
 split at e
 ·rename_i hz
  obtain⟨out,e2,e3⟩:=rW e
  subst e3
  rw[eval_ListComp]
  refine wpAny_comprehension_free (use:=none) rfl hs (nM I ck') ck'.kind ck'.names ?_
  refine sh (hi pins s σ H (fun J H'=>i9 H H'/\vX X.K J ds H') I ⟨ρ,ds,er,e1,fun J H' s1 y=>⟨s1,y⟩⟩) fun v s1 h1=>sh h1 fun itv s2 h2=>?_
  obtain⟨it,fp,tn,J,H',ei,I2,Tn,st,hf,s12,y⟩:=h2
  subst ei
  refine pj (RR:=fun acc C=>compPost (model X.prog X.w) X.A X.xe none (EP X pins σ Q) acc C) I2 hc Tn st hf ck' hnd hst (er.mono s12) y hz e2 hg hcnd he ?_
  intro a C H3 s' vs sm ha hr I3 fC hns
  obtain⟨m,hm⟩:=hns
  refine⟨m,hm,fun h' hsb=>⟨.ref a,H3,?_,rfl,q _ H3 (s12.trans sm) ⟨a,vs,rfl,ha,hr⟩⟩⟩
  obtain⟨f0,f1,f2,f3,f4,f5⟩:=fC
  exact I3.turned (it:=C) (t':=s'.toks) (fun b o hb eb=>(hsb.2 b hb).trans eb) f0 f1 f3 f4 f5
 ·cases e
end
end HW
namespace HW
open PySem
mutual
def toPy:D->PyData
 | .non=>.none
 | .bl b=>.bool b
 | .int i=>.int i
 | .str x=>.str x
 | .tup xs=>.tuple (l3 xs)
 | .lst xs=>.list (l3 xs)
 | .fro xs=>.list (l3 xs)
 | .obj ..=>.dict []
 | .rf ..=>.dict []
def l3:LD->List PyData
 | []=>[]
 | d::ds=>toPy d::l3 ds
end
mutual
theorem lx:∀{d:D},(toPy d).hasDict=false->sk d=true
 | .non,_=>rfl
 | .bl _,_=>rfl
 | .int _,_=>rfl
 | .str _,_=>rfl
 | .tup xs,h=>fv (xs:=xs) (by simpa [toPy,PyData.hasDict] using h)
 | .lst xs,h=>fv (xs:=xs) (by simpa [toPy,PyData.hasDict] using h)
 | .fro xs,h=>fv (xs:=xs) (by simpa [toPy,PyData.hasDict] using h)
 | .obj ..,h=>by simp[toPy,PyData.hasDict] at h
 | .rf ..,h=>by simp[toPy,PyData.hasDict] at h
theorem fv:∀{xs:LD},PyData.hasDictAll (l3 xs)=false->n6 xs=true
 | [],_=>rfl
 | x::xs,h=>by
  have h':((toPy x).hasDict||PyData.hasDictAll (l3 xs))=false:=by simpa [l3,PyData.hasDictAll] using h
  rw[Bool.or_eq_false_iff] at h'
  show(sk x&&n6 xs)=true
  rw[lx h'.1,fv h'.2];rfl
end
def BO:LD->OD
 | [.tup ds]=>if (toPy (.tup ds)).showable=true/\(toPy (.tup ds)).hasDict=false/\(toPy (.tup ds)).depth<=100/\(toPy (.tup ds)).shown.length<=sizeLine then some (.str (toPy (.tup ds)).shown) else none
 | _=>none
end HW
set_option maxHeartbeats 1000000
namespace HW
open PySem PySem.Spec PyProof.Rows L2
section
variable{X:Cx}
theorem ints2{K:N_}{H:Hp}{i j:Int}{xs:List V}(r:i8 K H [.int i,.int j] xs):xs=[.int i,.int j]:=by
 obtain⟨v,r',rfl,r1,w,r'',rfl,r2,r3⟩:=r
 cases (show v=_ from r1)
 cases (show w=_ from r2)
 cases (show r''=[] from r3)
 rfl
theorem iL(hc:X.calm=true):IO X (.builtin "max") CL:=(nO hc).imp fun xs H Q ⟨ds,d,r,e,q⟩=>by
 match ds,e with
 | [.int i,.int j],e =>
  cases e
  exact⟨i,j,ints2 r,q _ H (i9.refl H) rfl⟩
mutual
theorem u_{pins:List (N9×Obj)}{σ:L2.St}{H:Hp}{s:Oa}(I:L2.Inv X pins σ H s):∀{d:D} {v:V} {u:N8},sk d=true->Rep X.K H d v->RelV v u->∃as,Reads s.heap u (toPy d) as
 | .non,v,u,hn,h,r=>by
  cases (show v=_ from h)
  cases (show u=_ from r)
  exact⟨_,.none⟩
 | .bl b,v,u,hn,h,r=>by
  cases (show v=_ from h)
  cases (show u=_ from r)
  exact⟨_,.bool b⟩
 | .int i,v,u,hn,h,r=>by
  cases (show v=_ from h)
  obtain⟨t,rfl⟩:=r
  exact⟨_,.int i t⟩
 | .str x,v,u,hn,h,r=>by
  cases (show v=_ from h)
  obtain⟨t,rfl⟩:=r
  exact⟨_,.str x t⟩
 | .tup ds,v,u,hn,h,r=>by
  obtain⟨a,xs,rfl,q,t⟩:=h
  cases (show u=_ from r)
  obtain⟨its,rv,⟨o,e,c,n,dd⟩,_⟩:=I.tuple q
  obtain⟨as,ra⟩:=wz I hn t rv
  exact⟨_,.tuple e c dd (by simpa using ra)⟩
 | .lst ds,v,u,hn,h,r=>by
  obtain⟨a,xs,rfl,q,t⟩:=h
  cases (show u=_ from r)
  obtain⟨its,rv,⟨o,n,e,c,_,dd⟩,_⟩:=I.list (uJ.of q)
  obtain⟨as,ra⟩:=wz I hn t rv
  exact⟨_,.list e c dd (by simpa using ra)⟩
 | .fro ds,v,u,hn,h,r=>by
  obtain⟨a,xs,rfl,q,t⟩:=h
  cases (show u=_ from r)
  obtain⟨its,rv,⟨o,n,e,c,_,dd⟩,_⟩:=I.list q
  obtain⟨as,ra⟩:=wz I hn t rv
  exact⟨_,.list e c dd (by simpa using ra)⟩
 | .obj ..,v,u,hn,h,r=>by cases hn
 | .rf ..,v,u,hn,h,r=>by cases hn
theorem wz{pins:List (N9×Obj)}{σ:L2.St}{H:Hp}{s:Oa}(I:L2.Inv X pins σ H s):∀{ds:LD} {vs:List V} {us:List N8},n6 ds=true->i8 X.K H ds vs->l4 vs us->∃as,ReadsAll s.heap us (l3 ds) as
 | [],vs,us,hn,h,r=>by
  cases (show vs=[] from h)
  cases r
  exact⟨_,.nil⟩
 | d::ds,vs,us,hn,h,r=>by
  have hn':(sk d&&n6 ds)=true:=hn
  rw[Oe] at hn'
  obtain⟨v,vr,rfl,h1,h2⟩:=h
  cases r with
  | cons r1 r2 =>
   obtain⟨as,q1⟩:=u_ I hn'.1 h1 r1
   obtain⟨bs,q2⟩:=wz I hn'.2 h2 r2
   exact⟨_,.cons q1 q2⟩
end
theorem mK{k:Nat}(hr:rO k X.A):IO X (.builtin "repr") BO:=by
 intro pins s σ H xs us Q I r h
 obtain⟨ds,d,rs,e,q⟩:=h
 match ds,e with
 | [.tup ys],e =>
  unfold BO at e
  dsimp only at e
  split at e
  ·rename_i hc
   obtain⟨h1,h2,h3,h4⟩:=hc
   cases e
   obtain⟨v,r',rfl,r1,r2⟩:=rs
   cases (show r'=[] from r2)
   obtain⟨u,rfl,ru⟩:=r.one
   obtain⟨as,rd⟩:=u_ I (lx h2) r1 ru
   obtain⟨a,zs,rfl,_⟩:=r1
   cases (show u=_ from ru)
   refine repr_of_reads' rd h1 (PyData.noDict_hsm h2) hr.gd ?_ (fun _ _ e=>e) (fun h' t tk hk=>?_) h4
   ·have:=hr.un
    omega
   ·exact⟨.str _,H,I.kept hk,⟨t,rfl⟩,q _ H (i9.refl H) rfl⟩
  ·cases e
end
noncomputable def xY(a:N9)(xs:List V):HO:=.ext fun h=>xs.length<=sizeLine/\∃(its:List N8) (n:Nat),l4 xs its/\h.get? a=some {cls:=.type "list",data:=.seq its.toArray n}
section
variable{X:Cx}{pins:List (N9×Obj)}{σ:L2.St}{H:Hp}{s:Oa}{a:N9}{xs:List V}
theorem mJ(I:L2.Inv X pins σ H s)(h:H a=some (xY a xs)):xs.length<=sizeLine/\∃(its:List N8) (n:Nat),l4 xs its/\s.heap.get? a=some {cls:=.type "list",data:=.seq its.toArray n}:=(I.hok a _ h).1
theorem FY(I:L2.Inv X pins σ H s)(h:H a=some (.lst xs)):L2.Inv X pins σ (upd H a (xY a xs)) s:=by
 obtain⟨z,its,n,r,e⟩:=I.hok a _ h
 have:=I.write (t':=s.toks) (h':=s.heap) (o:=xY a xs) (x:=a) (e:=a) (by rw[h];trivial) (.inl rfl) (fun _ _ _ q=>q) ⟨_,e⟩ ⟨⟨z,its,n,r,e⟩,⟨_,e⟩,fun h1 h2 ⟨z,its,n,r,e⟩ k=>⟨z,its,n,r,k _ e⟩⟩
 exact this
theorem FO(I:L2.Inv X pins σ H s)(h:H a=some (xY a xs)):L2.Inv X pins σ (upd H a (.lst xs)) s:=by
 obtain⟨z,its,n,r,e⟩:=mJ I h
 have:=I.write (t':=s.toks) (h':=s.heap) (o:=.lst xs) (x:=a) (e:=a) (by rw[h];trivial) (.inl rfl) (fun _ _ _ q=>q) ⟨_,e⟩ ⟨z,its,n,r,e⟩
 exact this
def xN(a:N9)(H H':Hp):Prop:=∀b u,b≠a->H b=some u->H' b=some u
theorem xN.of{H H':Hp}(h:i9 H H'):xN a H H':=fun b u _ e=>h b u e
theorem xN.trans{H H1 H2:Hp}(h:xN a H H1)(h':xN a H1 H2):xN a H H2:=fun b u n e=>h' b u n (h b u n e)
theorem xN.upd{o:HO}:xN a H (upd H a o):=fun b u n e=>by rw[aq n];exact e
theorem xN.kp{H H':Hp}(h:xN a H H')(ho:H a=some (xY a xs)):Kp H H':=fun b u e n=>by
 by_cases hb:b=a
 ·subst hb
  rw[ho] at e
  cases e
  exact OA rfl (n _)
 ·exact h b u hb e
end
section
variable(K:N_)
def MJ(u:R->LD->N7 (Out×LD)):TS:=fun E σ H=>∃ ρ τ a ds xs o ds',sd K H ρ (some (.ref a)::τ) σ/\H a=some (xY a xs)/\i8 K H ds xs/\u ρ ds=some (o,ds') /\
 ∀H' xs',xN a H H'->H' a=some (xY a xs')->i8 K H' ds' xs'->fin K E (some (.ref a)::τ) o H'
def NY(u:R->LD->N7 Out):TS:=fun E σ H=>∃ ρ τ a ds xs o,sd K H ρ (some (.ref a)::τ) σ/\H a=some (xY a xs)/\i8 K H ds xs/\u ρ ds=some o/\∀H',xN a H H'->fin K E τ o H'
end
def OS(X:Cx)(st:OE)(u:R->LD->N7 (Out×LD)):Prop:=PS X st (MJ X.K u)
def LE(X:Cx)(sts:List OE)(u:R->LD->N7 (Out×LD)):Prop:=PSs X sts (MJ X.K u)
def OB(X:Cx)(sts:List OE)(u:R->LD->N7 Out):Prop:=PSs X sts (NY X.K u)
section
variable{X:Cx}{st:OE}{sts:List OE}{u:R->N7 Out}{p q:R->LD->N7 (Out×LD)}{pos:Pos}
theorem He{E:Ends}{σ:L2.St}{H:Hp}{K:N_}(h:MJ K (BB u) E σ H):HC K u E σ H:=by
 obtain⟨ρ,τ,a,ds,xs,o,ds',er,ho,rp,e,q⟩:=h
 obtain⟨o1,e1,e2⟩:=rW e
 cases e2
 exact⟨ρ,_,o,er,e1,fun H' s=>q H' xs (xN.of s) (s _ _ ho) (rp.mono s)⟩
theorem pJ(h:S1 X st u):OS X st (BB u):=PS.imp h fun E σ H z=>He z
theorem m_:LE X [] zN:=yE.imp fun E σ H ⟨ρ,τ,a,ds,xs,o,ds',er,ho,rp,e,q⟩=>by
 cases e
 exact q H xs (xN.of (i9.refl H)) ho rp σ er
theorem mG(h:OS X st p):LE X [st] p:=dh h
theorem qj{c:OG}{s:R->N7 Bool}{B1 B2:List OE}(hc:ST X c s)(ha:LE X B1 p)(hb:LE X B2 q):OS X (.If c B1 B2 pos) (HI s p q):=(jw hc ha hb).imp fun E σ H ⟨ρ,τ,a,ds,xs,o,ds',er,ho,rp,e,qq⟩=>by
 obtain⟨x,e1,e⟩:=i5 e
 refine⟨ρ,x,er.1,e1,fun H1 s1=>?_⟩
 cases x with
 | true=>rw[Of rfl] at e ⊢;exact⟨ρ,τ,a,ds,xs,o,ds',er.mono s1,s1 _ _ ho,rp.mono s1,e,fun H2 xs2 k2=>qq H2 xs2 ((xN.of s1).trans k2)⟩
 | false=>rw[Ov Oi] at e ⊢;exact⟨ρ,τ,a,ds,xs,o,ds',er.mono s1,s1 _ _ ho,rp.mono s1,e,fun H2 xs2 k2=>qq H2 xs2 ((xN.of s1).trans k2)⟩
theorem ot{K:N_}{H:Hp}{ρ:R}{v:V}{τ σ:L2.St}(er:sd K H ρ (some v::τ) σ):σ[ρ.length]?=some (some v):=by
 have:=er.2
 have h0:(σ.drop ρ.length)[0]?=some (some v):=by rw[this];rfl
 rw[List.getElem?_drop] at h0
 simpa using h0
theorem qJ{x name:Str}{e:OG}{px ap cp:Pos}{f:R->OD}{id:String}{r:V->List V->Hp->VK->Prop}{g:LD->D->N7 LD}{u:R->LD->N7 (Out×LD)}(i:Nat)(slot:Slot "list" name id)(hty:typeOf (.builtin id)=pure (.type "method_descriptor"))(hm:LJ X id r)
  (hu:∀ ρ ds o ds',u ρ ds=some (o,ds')->ρ.length=i/\o=.nx ρ/\∃d,f ρ=some d/\g ds d=some ds')
  (hr:∀(H:Hp) (a:N9) (xs:List V) (v:V) (ds ds':LD) (d:D) (Q:VK),H a=some (xY a xs)->i8 X.K H ds xs->Rep X.K H d v->g ds d=some ds'->(∀xs',i8 X.K H ds' xs'->Q .non (upd (upd H a (.lst xs)) a (.lst xs')))->r (.ref a) [v] (upd H a (.lst xs)) Q)
  (he:SE X e f) (hN:X.N[i]?=some x:=by rfl) (hv:BS X.env.scope x:=by first | exact Or.inl rfl | exact Or.inr (Or.inl rfl) | exact Or.inr (Or.inr rfl)) (hd:(x==("__debug__" : Str))=false:=by decide) (hcd:(x==("__classdict__" : Str))=false:=by decide)
  (hbase:attributeBase (.Name x px) name X.env (eval (.Name x px) X.env)=eval (.Name x px) X.env:=by rfl) (hst:noStar e=true:=by rfl)
  (hline:(ap.endLine==cp.line)=true:=by rfl) (hs:swapsWith (.Call (.Attribute (.Name x px) name ap) [e] [] cp) none pos.line X.env=pure false:=by rfl) :
  OS X (.Expr (.Call (.Attribute (.Name x px) name ap) [e] [] cp) pos) u:=by
 intro pins s σ H E I ⟨ρ,τ,a,ds,xs,o,ds',er,ho,rp,eu,qq⟩
 obtain⟨hi,rfl,d,e1,e2⟩:=hu ρ ds o ds' eu
 have hσ:=ot er
 rw[hi] at hσ
 have hst1:=aJ [] X.env hst
 refine wpAny_Expr_any (wpAny_Call_method_late hbase ?_ hline rfl (sh ((pv i (pos:=px) hN hv hd hcd) pins s σ H (fun v H1=>v=.ref a/\H1=H) I ⟨.ref a,hσ,rfl,rfl⟩) fun v s1 ⟨y,H1,I1,r1,ey,eH⟩=>?_)) I.quiet hs
 ·rw[hst1]
  rfl
 subst ey eH
 cases (show v=_ from r1)
 obtain⟨z,its,n,rv,eo⟩:=mJ I1 ho
 refine⟨"list",id,PySem.F.plainAttrs_list,slot,hty,⟨_,eo,rfl⟩,fun b eb=>?_,?_⟩
 ·cases eb
  exact⟨_,eo,rfl⟩
 have hA:=(ac he af hst).1 cp pins s1 σ H1 (fun vs H2=>i9 H1 H2/\i8 X.K H2 [d] vs) I1 ⟨ρ,[d],er.1,by show(f ρ).bind _=_;rw[e1];rfl,fun vs H2 s2 r2=>⟨s2,r2⟩⟩
 rw[hst1] at hA ⊢
 refine Calls.callWith_builtin rfl (Calls.evalArgs_plain ?_)
 refine sh hA fun us s2 ⟨vs,H2,I2,r2,s12,rd⟩=>?_
 obtain⟨w,w',rfl,rw1,rw2⟩:=rd
 cases (show w'=[] from rw2)
 have ho2:=s12 _ _ ho
 have I3:=FO I2 ho2
 refine sh (hm pins s2 σ (upd H2 a (.lst xs)) (.ref a) [w] (.ref a) us (fun v H3=>∃xs',i8 X.K H2 ds' xs'/\H3=upd (upd H2 a (.lst xs)) a (.lst xs')) I3 rfl r2 (hr H2 a xs w ds ds' d _ ho2 (rp.mono s12) rw1 e2 fun xs' rp'=>⟨xs',rp',rfl⟩)) fun v s3 ⟨v',H3,I4,_,xs',rp',e3⟩=>?_
 subst e3
 have I5:=FY I4 av
 generalize hH5:upd (upd (upd H2 a (.lst xs)) a (.lst xs')) a (xY a xs')=H5 at I5
 have k25:xN a H2 H5:=by
  subst hH5
  exact xN.upd.trans (xN.upd.trans xN.upd)
 have ho5:H5 a=some (xY a xs'):=by subst hH5;exact av
 have k15:xN a H1 H5:=(xN.of s12).trans k25
 refine⟨σ,H5,I5,qq H5 xs' k15 ho5 (rp'.kp (k25.kp ho2)) σ (er.kp (k15.kp ho))⟩
theorem mj{x:Str}{e:OG}{px ap cp:Pos}{f:R->OD}(i:Nat)(he:SE X e f)(hN:X.N[i]?=some x:=by rfl)(hv:BS X.env.scope x:=by first | exact Or.inl rfl | exact Or.inr (Or.inl rfl) | exact Or.inr (Or.inr rfl))(hd:(x==("__debug__" : Str))=false:=by decide)(hcd:(x==("__classdict__" : Str))=false:=by decide)
  (hbase:attributeBase (.Name x px) "append" X.env (eval (.Name x px) X.env)=eval (.Name x px) X.env:=by rfl) (hst:noStar e=true:=by rfl)
  (hline:(ap.endLine==cp.line)=true:=by rfl) (hs:swapsWith (.Call (.Attribute (.Name x px) "append" ap) [e] [] cp) none pos.line X.env=pure false:=by rfl) :
  OS X (.Expr (.Call (.Attribute (.Name x px) "append" ap) [e] [] cp) pos) (Bd i f):=by
 refine qJ (g:=fun ds d=>if ds.length<sizeLine then some (ds++[d]) else none) (f:=f) i PySem.F.slot_list_append PySem.F.type_list_append jx ?_ ?_ he hN hv hd hcd hbase hst hline hs
 ·intro ρ ds o ds' h
  obtain⟨d,e1,h⟩:=i5 h
  split at h
  ·rename_i hc
   cases h
   exact⟨hc.1,rfl,d,e1,Of hc.2⟩
  ·cases h
 ·intro H a xs v ds ds' d Q ho rp rd e q
  split at e
  ·rename_i hc
   cases e
   exact⟨a,xs,v,rfl,rfl,av,by rw[<- rp.length];exact hc,q _ (rp.append (i8.one rd))⟩
  ·cases e
theorem ie{w:R->LD->N7 Out}(h1:OS X st p)(h2:OB X sts w):OB X (st::sts) (wK p w):=(dM h1 h2).imp fun E σ H ⟨ρ,τ,a,ds,xs,o,er,ho,rp,e,qq⟩=>by
 obtain⟨⟨o1,ds1⟩,e1,e⟩:=i5 e
 refine⟨ρ,τ,a,ds,xs,o1,ds1,er,ho,rp,e1,fun H1 xs1 k1 ho1 rp1=>?_⟩
 cases o1 with
 | nx ρ2=>exact fun σ2 er2=>⟨ρ2,τ,a,ds1,xs1,o,er2,ho1,rp1,e,fun H2 k2=>qq H2 (k1.trans k2)⟩
 | rt d=>cases e;exact qq H1 k1
 | bk ρ2=>cases e
 | ct ρ2=>cases e
theorem oO(h:SS X sts u):OB X sts (Fz u):=by
 intro pins s σ H E I ⟨ρ,τ,a,ds,xs,o,er,ho,rp,e,qq⟩
 have I2:=FO I ho
 have k:xN a H (upd H a (.lst xs)):=xN.upd
 have hσ:=ot er
 have er2:=er.kp (k.kp ho)
 refine h pins s σ _ E I2 ⟨ρ++[some (D.lst ds)],τ,o,⟨⟨?_,fun i d hd=>?_⟩,?_⟩,(show u (ρ++[some (D.lst ds)])=some o from e),fun H' s'=>qq H' (k.trans (xN.of s'))⟩
 ·have:=(OI.mp hσ).1
  rw[OW,List.length_singleton]
  exact this
 ·by_cases hi:i<ρ.length
  ·rw[O4 hi] at hd
   exact er2.1.2 i d hd
  ·by_cases hi2:i=ρ.length
   ·subst hi2
    rw[OT (Oo _),Nat.sub_self] at hd
    cases hd
    exact⟨_,hσ,a,xs,rfl,av,rp.kp (k.kp ho)⟩
   ·rw[Pt (by simp;omega)] at hd
    cases hd
 ·rw[OW,List.length_singleton,<- List.drop_drop,er.2]
  rfl
theorem oj{x:Str}{es:List OG}{F:R->N7 LD}{w:R->LD->N7 Out}{px p1:Pos}(i:Nat)(hN:X.N.Nodup)(hF:SA X es F)(h2:OB X sts w)(hix:X.N[i]?=some x:=by rfl)(hx:Loc X.env.scope x:=by first | exact Or.inl rfl | exact Or.inr rfl)
  (hl:Nat.ble es.length 1000=true:=by rfl) (hs:swapsWith (.List es p1) (some (.Name x px)) pos.line X.env=pure false:=by rfl) (hf:X.fn x=true\/X.env.scope.names.lookup x=some .local:=by first | exact .inl rfl | exact .inr rfl) :
  SS X (.Assign [.Name x px] (.List es p1) pos::sts) (Jj i F w):=by
 intro pins s σ H E I ⟨ρ,τ,o,er,e,qq⟩
 obtain⟨ds,e1,e⟩:=i5 e
 split at e
 case isFalse=>cases e
 case isTrue hlen =>
 refine wpAny_execs_cons (sh ((gx (i:=i) hN hix hx (lZ hF.1) hs hf) pins s σ H {E with nx:=fun σ' H'=>∃a vs H1,σ'=σ.set i (some (.ref a))/\H'=upd H1 a (.lst vs)/\H1 a=none/\i9 H H1/\i8 X.K H1 ds vs} I ?_) fun f s1 q=>?_)
 ·refine⟨ρ,ds,er.1,e1,fun vs H1 s1 r1=>⟨?_,fun a ha=>⟨a,vs,H1,rfl,rfl,ha,s1,r1⟩⟩⟩
  rw[<- r1.length,hF.2.1 ρ ds e1]
  exact Nat.le_of_lt (wo (Nat.le_of_ble_eq_true hl))
 cases f with
 | next =>
  obtain⟨σ',H',I',a,vs,H1,rfl,rfl,ha,s1',r1⟩:=q
  have I2:=FY I' av
  generalize hH2:upd (upd H1 a (.lst vs)) a (xY a vs)=H2 at I2
  have k12:xN a H1 H2:=by
   subst hH2
   exact xN.upd.trans xN.upd
  have s12:i9 H1 H2:=fun b u hb=>k12 b u (fun z=>by rw[z,ha] at hb;cases hb) hb
  have ho2:H2 a=some (xY a vs):=by subst hH2;exact av
  have hσi:i<σ.length:=Ol (by omega) er.1.1
  refine h2 pins s1 _ H2 E I2 ⟨ρ.take i,τ,a,ds,vs,o,⟨⟨?_,fun j d hd=>?_⟩,?_⟩,ho2,r1.mono s12,e,fun H' k=>qq H' fun b u hb=>?_⟩
  ·simp
   omega
  ·have hj:j<i:=by
    have:=(OI.mp hd).1
    simp at this
    omega
   rw[List.getElem?_take_of_lt hj] at hd
   obtain⟨v,h1,h2⟩:=er.1.2 j d hd
   exact⟨v,by rw[O8 (by omega)];exact h1,(h2.mono s1').mono s12⟩
  ·have hd:σ.drop (i+1)=τ:=by rw[<- hlen];exact er.2
   rw[Pj,Nat.min_eq_left (by omega),Ph (by simpa using hσi)]
   congr 1
   ·simp
   ·rw[List.drop_set_of_lt (by omega)]
    exact hd
  ·have hb2:=s12 _ _ (s1' _ _ hb)
   exact k b u (fun z=>by
    have q:=s1' _ _ hb
    rw[z,ha] at q
    cases q) hb2
 | brk=>exact q
 | cont=>exact q
 | ret v=>exact q
end
mutual
theorem ir:∀d:D,rG d=true->(toPy d).canLay0=true
 | .non,_=>by simp[toPy,PyData.canLay0]
 | .bl _,_=>by simp[toPy,PyData.canLay0]
 | .int _,_=>by simp[toPy,PyData.canLay0]
 | .str _,h=>by rw[rG] at h;simpa [toPy,PyData.canLay0,PyData.strOk] using h
 | .tup ds,h=>by rw[toPy,PyData.canLay0];exact ic ds h
 | .lst ds,h=>by rw[toPy,PyData.canLay0];exact ic ds h
 | .fro ds,h=>by rw[toPy,PyData.canLay0];exact ic ds h
 | .obj ..,h=>by cases h
 | .rf ..,h=>by cases h
theorem ic:∀ds:LD,tw ds=true->PyData.canLayAll0 (l3 ds)=true
 | [],_=>by simp[l3,PyData.canLayAll0]
 | d::ds,h=>by
  have h':(rG d&&tw ds)=true:=h
  rw[Oe] at h'
  rw[l3,PyData.canLayAll0,ir d h'.1,ic ds h'.2];rfl
end
mutual
theorem oH:∀d:D,sk d=true->(toPy d).depth=uB d
 | .non,_=>by simp[toPy,PyData.depth,uB]
 | .bl _,_=>by simp[toPy,PyData.depth,uB]
 | .int _,_=>by simp[toPy,PyData.depth,uB]
 | .str _,_=>by simp[toPy,PyData.depth,uB]
 | .tup ds,h=>by rw[toPy,PyData.depth,uB,ib ds h]
 | .lst ds,h=>by rw[toPy,PyData.depth,uB,ib ds h]
 | .fro ds,h=>by rw[toPy,PyData.depth,uB,ib ds h]
 | .obj ..,h=>by cases h
 | .rf ..,h=>by cases h
theorem ib:∀ds:LD,n6 ds=true->PyData.depthAll (l3 ds)=uP ds
 | [],_=>by simp[l3,PyData.depthAll,uP]
 | d::ds,h=>by
  have h':(sk d&&n6 ds)=true:=h
  rw[Oe] at h'
  rw[l3,PyData.depthAll,uP,oH d h'.1,ib ds h'.2]
end
mutual
theorem CJ:∀x y:D,sk x=true->sk y=true->PyData.eqv (toPy x) (toPy y)=HN x y
 | .non,y,_,h=>by cases y<;>first | rfl | cases h
 | .bl a,y,_,h=>by cases y<;>first | rfl | cases h
 | .int a,y,_,h=>by cases y<;>first | rfl | cases h
 | .str a,y,_,h=>by cases y<;>first | rfl | cases h
 | .tup xs,y,g,h=>by
  cases y with
  | tup ys=>exact wl xs ys g h
  | obj _ _ _ _=>cases h
  | rf _=>cases h
  | _=>rfl
 | .lst xs,y,g,h=>by
  cases y with
  | lst ys=>exact wl xs ys g h
  | fro ys=>exact wl xs ys g h
  | obj _ _ _ _=>cases h
  | rf _=>cases h
  | _=>rfl
 | .fro xs,y,g,h=>by
  cases y with
  | lst ys=>exact wl xs ys g h
  | fro ys=>exact wl xs ys g h
  | obj _ _ _ _=>cases h
  | rf _=>cases h
  | _=>rfl
 | .obj ..,y,g,h=>by cases g
 | .rf ..,y,g,h=>by cases g
theorem wl:∀xs ys:LD,n6 xs=true->n6 ys=true->PyData.eqvAll (l3 xs) (l3 ys)=zH xs ys
 | [],[],_,_=>rfl
 | [],_::_,_,_=>rfl
 | _::_,[],_,_=>rfl
 | x::xs,y::ys,g,h=>by
  have g':(sk x&&n6 xs)=true:=g
  have h':(sk y&&n6 ys)=true:=h
  rw[Oe] at g' h'
  show(PyData.eqv (toPy x) (toPy y)&&PyData.eqvAll (l3 xs) (l3 ys))=(HN x y&&zH xs ys)
  rw[CJ x y g'.1 h'.1,wl xs ys g'.2 h'.2]
end
section
variable{X:Cx}
theorem z_{k:Nat}(hr:rO k X.A){dx dy:D}(h:uB dx<=100)(hn:sk dx=true):X.A.units+min (toPy dx).depth (toPy dy).depth<cLine:=by
 have h1:=hr.un
 have h2:min (toPy dx).depth (toPy dy).depth<=100:=by rw[oH dx hn];omega
 omega
theorem oM{k:Nat}(hr:rO k X.A):B9 X .Eq xZ:=by
 intro pins s σ H x y v u Q I rx ry h
 obtain⟨dx,dy,b,r1,r2,e,q⟩:=h
 unfold xZ at e
 split at e
 ·rename_i hd
  cases e
  obtain⟨as,ra⟩:=u_ I (bE hd.2.1) r1 rx
  obtain⟨bs,rb⟩:=u_ I (bE hd.2.2) r2 ry
  have z:=SeqAt.rcAt_reads ra rb (ir dx hd.2.1) (ir dy hd.2.2) (z_ (dy:=dy) hr hd.1 (bE hd.2.1))
  rw[CJ _ _ (bE hd.2.1) (bE hd.2.2)] at z
  exact z _ _ _ _ ⟨.bl (HN dx dy),H,I,rfl,q⟩
 ·cases e
theorem fJ{k:Nat}(hr:rO k X.A):B9 X .NotEq vL:=by
 intro pins s σ H x y v u Q I rx ry h
 obtain⟨dx,dy,b,r1,r2,e,q⟩:=h
 unfold vL xZ at e
 split at e
 ·rename_i hd
  cases e
  obtain⟨as,ra⟩:=u_ I (bE hd.2.1) r1 rx
  obtain⟨bs,rb⟩:=u_ I (bE hd.2.2) r2 ry
  have z:=SeqAt.rcNeAt_reads ra rb (ir dx hd.2.1) (ir dy hd.2.2) (z_ (dy:=dy) hr hd.1 (bE hd.2.1))
  rw[CJ _ _ (bE hd.2.1) (bE hd.2.2)] at z
  exact PySem.EqBoolInt.of_rcne z ⟨.bl (!HN dx dy),H,I,rfl,q⟩
 ·cases e
end
section
variable{prog:Oh}{w:Ot}{A:OJ}{R':Result->Oa->Prop}{I:N9}{fp wr:List N9}{n:Nat}{P:Nat->N8->Prop}{St:Nat->OC->Prop}
abbrev G7:List (Str×N8):=[(oS "default",Value.none)]
abbrev KJ(S:N9)(vs:Array N8)(c:Nat)(h:OC):Prop:=h.get? S=some {cls:=.type "list",dict:=none,data:=.seq vs c,slots:=#[]}
theorem wu:(toString "max" ++ toString ".loop" : String) = "max.loop":=by decide
theorem GM(W:Walks prog w A.in1 I fp wr n P St)(bt:Nat->Nat->Bool)(hcmp:CmpOf prog w A.in1 .Gt P bt)(S:N9)(hSf:S∉fp):∀(k j:Nat) (s:Oa) (vb:N8) (c:Nat),n - (j+1)=k->j+1<=n->St (j+1) s.heap->P (argBest bt j) vb->KJ S #[vb,vb] c s.heap ->
  (∀v h' tk,P (argBest bt (n - 1)) v->(∀b o,b∉wr->b≠S->s.heap.get? b=some o->h'.get? b=some o)->R' (.ok (.ret v)) {s with heap:=h',toks:=tk})->codeAny (model prog w) A (.builtin "max.loop" ⟨[.ref I,.none,.ref S],G7⟩) R' s:=by
 have hSw:S∉wr:=fun z=>hSf (W.sub _ z)
 intro k
 induction k with
 | zero =>
  intro j s vb c hk hj hst hPb hS hR
  have hin:j+1=n:=by omega
  refine Pp F.entry_max_loop ?_;rw[Around.under_plainId F.plain_max_loop _];show wpAny _ A.in1 (seqItems? (.ref S) >>= _) _ _ s
  refine Ob (wpAny_seqItems hS rfl ?_);show wpAny _ A.in1 (tryCatch (pyNext (.ref I)) _ >>= _) _ _ s
  refine Ob (wpAny_tryCatch (W.done s _ _ (hin ▸ hst) fun h1 t1 k1=>?_));have hS1:=k1 S _ hSw hS
  show wpAny _ A.in1 (updateSeq S (fun _=>#[]) >>= _) _ _ _;refine Ob (wpAny_updateSeq hS1 rfl (Ob (wpAny_letGo (Ou ?_))))
  exact hR vb _ t1 (by rw[<- hin];exact hPb) fun b o hbw hbS e=>(OY _ _ (Ne.symm hbS)).trans (k1 b o hbw e)
 | succ k ih =>
  intro j s vb c hk hj hst hPb hS hR
  have hlt:j+1<n:=by omega
  refine Pp F.entry_max_loop ?_;rw[Around.under_plainId F.plain_max_loop _];show wpAny _ A.in1 (seqItems? (.ref S) >>= _) _ _ s
  refine Ob (wpAny_seqItems hS rfl ?_);show wpAny _ A.in1 (tryCatch (pyNext (.ref I)) _ >>= _) _ _ s
  refine Ob (wpAny_tryCatch (W.item (j+1) s _ _ hlt hst fun v h1 t1 hP st1 k1=>?_));have hS1:=k1 S _ hSw hS
  show wpAny _ A.in1 (tryCatch (holding [v,v] (richCompare .Gt v vb >>= _)) _ >>= _) _ _ _;refine Ob (wpAny_tryCatch (wpAny_holding (Ob (hcmp (j+1) (argBest bt j) v vb _ _ _ hP hPb ?_))))
  refine Ob (wpAny_holding (wpAny_truthy_bool ?_));refine Ob (wpAny_letGo (Ou ?_))
  cases hb:bt (j+1) (argBest bt j) with
  | true =>
   simp only[if_true];refine Ob (wpAny_updateSeq hS1 rfl (Ob (wpAny_letGo ?_)));rw[wu]
   refine Ou ⟨plainId_quiet F.plain_max_loop _,ih (j+1) _ v _ (by omega) hlt (W.frame _ _ _ st1 fun b hbf o e=>?_) (by simp only[argBest,hb,if_true];exact hP) (Pm _ hS1 rfl) fun v' h2 t2 hP' k2=>?_⟩
   ·refine(OY _ _ fun z:S=b=>hSf ?_).trans e;rw[z];exact hbf
   ·refine hR v' h2 t2 hP' fun b o hbw hbS e=>k2 b o hbw hbS ?_;exact(OY _ _ (Ne.symm hbS)).trans (k1 b o hbw e)
  | false =>
   simp only[Bool.false_eq_true,if_false];refine Ob (wpAny_letGo ?_);rw[wu]
   refine Ou ⟨plainId_quiet F.plain_max_loop _,ih (j+1) _ vb c (by omega) hlt st1 (by simp only[argBest,hb,Bool.false_eq_true,if_false];exact hPb) hS1 fun v' h2 t2 hP' k2=>?_⟩
   refine hR v' h2 t2 hP' fun b o hbw hbS e=>k2 b o hbw hbS ?_;exact k1 b o hbw e
theorem EW(W:Walks prog w A.in1 I fp wr n P St)(bt:Nat->Nat->Bool)(hcmp:CmpOf prog w A.in1 .Gt P bt)(S:N9)(hSf:S∉fp){s:Oa}{c:Nat}(hst:St 0 s.heap)(hS:KJ S #[] c s.heap)
  (h0:n=0->∀h' tk,(∀b o,b∉wr->b≠S->s.heap.get? b=some o->h'.get? b=some o)->R' (.ok (.ret .none)) {s with heap:=h',toks:=tk})
  (hR:0<n->∀v h' tk,P (argBest bt (n - 1)) v->(∀b o,b∉wr->b≠S->s.heap.get? b=some o->h'.get? b=some o)->R' (.ok (.ret v)) {s with heap:=h',toks:=tk}):codeAny (model prog w) A (.builtin "max.loop" ⟨[.ref I,.none,.ref S],G7⟩) R' s:=by
 have hSw:S∉wr:=fun z=>hSf (W.sub _ z)
 refine Pp F.entry_max_loop ?_;rw[Around.under_plainId F.plain_max_loop _];show wpAny _ A.in1 (seqItems? (.ref S) >>= _) _ _ s
 refine Ob (wpAny_seqItems hS rfl ?_);show wpAny _ A.in1 (tryCatch (pyNext (.ref I)) _ >>= _) _ _ s
 by_cases hn:0<n
 ·refine Ob (wpAny_tryCatch (W.item 0 s _ _ hn hst fun v h1 t1 hP st1 k1=>?_));have hS1:=k1 S _ hSw hS
  show wpAny _ A.in1 (updateSeq S (fun _=>#[v,v]) >>= _) _ _ _;refine Ob (wpAny_updateSeq hS1 rfl ?_);rw[wu]
  refine Ou ⟨plainId_quiet F.plain_max_loop _,GM W bt hcmp S hSf _ 0 _ v _ rfl hn (W.frame _ _ _ st1 fun b hbf o e=>?_) hP (Pm _ hS1 rfl) fun v' h2 t2 hP' k2=>?_⟩
  ·refine(OY _ _ fun z:S=b=>hSf ?_).trans e;rw[z];exact hbf
  ·refine hR hn v' h2 t2 hP' fun b o hbw hbS e=>k2 b o hbw hbS ?_;exact(OY _ _ (Ne.symm hbS)).trans (k1 b o hbw e)
 ·have hz:n=0:=by omega
  refine Ob (wpAny_tryCatch (W.done s _ _ (hz ▸ hst) fun h1 t1 k1=>?_))
  refine Ob (wpAny_rule (Ou ?_))
  exact h0 hz h1 t1 fun b o hbw hbS e=>k1 b o hbw e
end
section
variable{prog:Oh}{w:Ot}{A:OJ}{E:N8->Oa->Prop}{s:Oa}
theorem Ea(a:N8):argsOk "max" ⟨[a],G7⟩:=by unfold argsOk;kernel_rfl
theorem gI{l:N9}{its:List N8}{val:Nat->Int}{Q:N8->Oa->Prop}(hh:A.handled=none)(hl:s.heap.IsList l its.toArray)(hv:∀(i:Nat) v,its.toArray[i]?=some v->∃t,v=.int (val i) t)
  (h0:its=[]->∀h' tk,(∀b o,s.heap.get? b=some o->h'.get? b=some o)->Q .none {s with heap:=h',toks:=tk})
  (h1:its ≠ []->∀v h' tk,its.toArray[argBest (fun i j=>decide (val i > val j)) (its.length - 1)]?=some v->(∀b o,s.heap.get? b=some o->h'.get? b=some o)->Q v {s with heap:=h',toks:=tk}) :
  wpAny (model prog w) A (call (.builtin "max") [.ref l] G7) Q E s:=by
 refine wpAny_call (codeAny_call_builtin F.plain_max F.entry_max ?_)
 simp only[checkBuiltinCall,F.kind_max]
 have main:wpAny (model prog w) A.in1 (Builtin.«max» ⟨[.ref l],G7⟩) (fun fin s'=>match fin with
   | .done f=>(match (Except.ok f:Result) with
    | .ok (.ret v)=>Q v s'
    | .ok _=>False
    | .error e=>E e s')
   | .again c'=>c'.quiet=true/\codeAny (model prog w) A c' (fun r s'=>match r with
    | .ok (.ret v)=>Q v s'
    | .ok _=>False
    | .error e=>E e s') s') E s:=by
  show wpAny _ A.in1 (Builtin.Builtins.bindParams "max" ["key","default"] 0 ⟨[],G7⟩ >>= _) _ _ s
  refine Ob (wpAny_of_eq (show Builtin.Builtins.bindParams "max" ["key","default"] 0 ⟨[],G7⟩=pure [none,some .none] from rfl) ?_)
  refine Ob (Ou (Ob (wpAny_pyIter_list hl ?_)))
  refine Ob (Pd ?_)
  rw[wu]
  have hlt:l<s.heap.objs.size:=by
   obtain⟨o,e,_⟩:=hl
   exact Om e
  generalize hI:s.heap.objs.size=J at hlt
  generalize h1e:s.heap.push {cls:=Value.type "list_iterator",data:=Data.fields #[Value.ref l,Value.int 0 0]}=H1
  have hJ:H1.objs.size=J+1:=by rw[<- h1e,Heap.size_push,hI]
  have k1:∀b o,s.heap.get? b=some o->H1.get? b=some o:=fun b o e=>by rw[<- h1e];exact Og _ e
  have st1:H1.IsListIter J l 0/\H1.IsList l its.toArray:=⟨by rw[<- h1e,<- hI];exact⟨_,Ox _ rfl,rfl,rfl⟩,hl.at fun o e=>k1 _ _ e⟩
  have hne:l≠J:=OL hlt
  have hSf:H1.objs.size ∉ [J,l]:=by
   rw[hJ]
   intro z
   rcases Oj.mp z with z | z
   ·exact OA z (Nat.ne_of_gt (Po J))
   ·rw[<- Od.mp z] at hlt
    exact OA hlt (Nat.not_lt.mpr (Nat.le_succ J))
  have W:=Walks.list (prog:=prog) (w:=w) (A:=A.in1) hh J l hne its.toArray
  have old:∀{h':OC},(∀b o,b ∉ [J]->b≠H1.objs.size->(H1.push {cls:=Value.type "list",data:=Data.seq ([]:List N8).toArray}).get? b=some o->h'.get? b=some o)->∀b o,s.heap.get? b=some o->h'.get? b=some o:=fun kk b o e=>by
   have hb:b<J:=by rw[<- hI];exact Om e
   refine kk b o (fun z=>OA (Od.mp z) (OL hb)) ?_ (Og _ (k1 b o e))
   rw[hJ]
   exact OL (Nat.lt_succ_of_lt hb)
  refine Ou ⟨plainId_quiet F.plain_max_loop _,EW W _ (CmpOf.ints_gt val hv) H1.objs.size hSf (W.frame _ _ _ st1 fun b _ o e=>Og _ e) (Ox _ rfl) (fun hz h' tk kk=>?_) fun hn v h' tk hP kk=>?_⟩
  ·exact h0 (by simpa using hz) h' tk (old kk)
  ·refine h1 (fun z=>by subst z;simp at hn) v h' tk ?_ (old kk)
   simpa using hP
 cases hsig:Manifest.signature? "max" with
 | none=>exact Ou main
 | some sig =>
  have ha:=Ea (.ref l)
  simp only[argsOk,hsig] at ha
  have h2:Bind.checkArgs "max" sig ⟨[.ref l],G7⟩=pure ():=ha
  show wpAny _ A.in1 (Bind.checkArgs "max" sig ⟨[.ref l],G7⟩) _ _ s
  rw[h2]
  exact Ou main
end
section
variable{X:Cx}
theorem pV{e:OG}{f:R->OD}{p kp p2 pos:Pos}{j:Nat}(hc:X.calm=true)(hm:X.mg "max" = none)(he:SE X e f)(hg:Gl X "max":=by rfl)(hst:noStar e=true:=by rfl) :
  SE X (.Call (.Name "max" p) [e] [⟨some "default",.Constant .none j p2,kp⟩] pos) (h9 Bt (e8 f g5)):=by
 intro pins s σ H Q I ⟨ρ,d,er,eq,q⟩
 obtain⟨ds,e1,e2⟩:=i5 eq
 have hst1:=aJ [] X.env hst
 refine Pc (gy I hg hm boot_max ?_ (by decide) (by decide))
 refine callWith_kw (sh ((ac he af hst).1 pos pins s σ H (fun vs H2=>i9 H H2/\i8 X.K H2 ds vs) I ⟨ρ,ds,er,e1,fun vs H2 s2 r2=>⟨s2,r2⟩⟩) fun us s1 ⟨vs,H1,I1,r1,s01,rp⟩=>?_) (by rw[hst1];rfl) (by rw[hst1];rfl) rfl rfl
 refine kws_cons (Constant_none (kws_nil ?_))
 have hh:=I1.ok.hd hc
 match ds,e2 with
 | [.lst []],e2 =>
  cases e2
  obtain⟨v,r',rfl,⟨a,xs,rfl,ha,rx⟩,rr⟩:=rp
  cases (show r'=[] from rr)
  cases (show xs=[] from rx)
  obtain⟨u,rfl,ru⟩:=r1.one
  cases (show u=_ from ru)
  obtain⟨_,its,n,rv,hl,eo⟩:=I1.lstM ha
  cases rv
  exact gI (val:=fun _=>0) hh ⟨_,eo,rfl,n,rfl⟩ (fun i v hv=>by simp at hv) (fun _ h' tk k=>⟨.non,H1,I1.kept k,rfl,q _ H1 s01 rfl⟩) fun z=>OA rfl z
 | [.lst [.int a1]],e2 =>
  cases e2
  obtain⟨v,r',rfl,⟨a,xs,rfl,ha,rx⟩,rr⟩:=rp
  cases (show r'=[] from rr)
  obtain⟨x1,x2,rfl,rx1,rx2⟩:=rx
  cases (show x1=_ from rx1)
  cases (show x2=[] from rx2)
  obtain⟨u,rfl,ru⟩:=r1.one
  cases (show u=_ from ru)
  obtain⟨_,its,n,rv,hl,eo⟩:=I1.lstM ha
  obtain⟨w1,rfl,t1,rfl⟩:=rv.one
  refine gI (val:=fun _=>a1) hh ⟨_,eo,rfl,n,rfl⟩ (fun i v hv=>?_) (fun z=>by cases z) fun _ v h' tk hv k=>?_
  ·have z:=(Array.getElem?_eq_some_iff.mp hv).1
   have z0:i=0:=by simpa using z
   subst z0
   exact⟨t1,(Ow hv).symm⟩
  ·have hv':Value.int a1 t1=v:=Ow hv
   subst hv'
   exact⟨.int a1,H1,I1.kept k,⟨t1,rfl⟩,q _ H1 s01 rfl⟩
 | [.lst [.int a1,.int a2]],e2 =>
  cases e2
  obtain⟨v,r',rfl,⟨a,xs,rfl,ha,rx⟩,rr⟩:=rp
  cases (show r'=[] from rr)
  have hx:=ints2 rx
  subst hx
  obtain⟨u,rfl,ru⟩:=r1.one
  cases (show u=_ from ru)
  obtain⟨_,its,n,rv,hl,eo⟩:=I1.lstM ha
  obtain⟨w1,w2,rfl,⟨t1,rfl⟩,⟨t2,rfl⟩⟩:=vals2 rv
  refine gI (val:=fun i=>if i=0 then a1 else a2) hh ⟨_,eo,rfl,n,rfl⟩ (fun i v hv=>?_) (fun z=>by cases z) fun _ v h' tk hv k=>?_
  ·have z:=(Array.getElem?_eq_some_iff.mp hv).1
   have z0:i=0\/i=1:=by
    have:i<2:=by simpa using z
    omega
   rcases z0 with rfl | rfl
   ·exact⟨t1,(Ow hv).symm⟩
   ·exact⟨t2,(Ow hv).symm⟩
  ·by_cases hgt:a2 > a1
   ·have hb:argBest (fun i j=>decide ((if i=0 then a1 else a2) > (if j=0 then a1 else a2))) ([Value.int a1 t1,Value.int a2 t2].length - 1)=1:=by simp[argBest,hgt]
    rw[hb] at hv
    have hv':Value.int a2 t2=v:=Ow hv
    subst hv'
    exact⟨.int a2,H1,I1.kept k,⟨t2,rfl⟩,q _ H1 s01 (by show V.int a2=V.int _;rw[Of hgt])⟩
   ·have hb:argBest (fun i j=>decide ((if i=0 then a1 else a2) > (if j=0 then a1 else a2))) ([Value.int a1 t1,Value.int a2 t2].length - 1)=0:=by simp[argBest,hgt]
    rw[hb] at hv
    have hv':Value.int a1 t1=v:=Ow hv
    subst hv'
    exact⟨.int a1,H1,I1.kept k,⟨t1,rfl⟩,q _ H1 s01 (by show V.int a1=V.int _;rw[Ov hgt])⟩
end
section
open PySem.SeqAt
open AutoSeq1 (wpAny_loadPart')
open MeetsSeq MeetsSeq2 MeetsSeq3 SeqRoads2
theorem zE(l:N9)(items:Array N8)(n:Nat)(dd:N7 N9)(sl:Array (N7 N8))(x:N8)(j:Nat)(hj:j<items.size) :
  Meets (Builtin.«tuple.index» ⟨[.ref l,x],[]⟩) (fun A R s=>s.heap.get? l=some {cls:=.type "tuple",dict:=dd,data:=.seq items n,slots:=sl}/\(∀i (h:i<items.size),i<=j->EqAt A.in1 s items[i] x (decide (i=j)))/\R (.ok (.ret (.int (j:Int) s.toks))) {s with toks:=s.toks+1}):=
 .of_wp fun prog w A R s h=>by
  obtain⟨hp,g,d,tk,os⟩:=s
  obtain⟨hl,he,h⟩:=h
  unfold Builtin.«tuple.index»
  simp only[Std.Legacy.Range.forIn_eq_forIn_range']
  wp_walk using wpAny_loadPart' hl,wpAny_forIn_list _ (fun rest b s'=>s'=⟨hp,g,d,tk,os⟩/\b=(none,())/\∃k,k<=j/\rest=List.range' k (items.size - k)) _
  case turn =>
   rintro i rest b s' ⟨rfl,rfl,k,hk,e⟩
   have hs:items.size - k=(items.size - (k+1))+1:=by omega
   rw[hs,List.range'_succ] at e
   cases e
   have hlt:i<items.size:=by omega
   have hi:items[i]?=some items[i]:=by simp[hlt]
   rw[hi]
   refine Ob (he i hlt hk prog w _ _ ?_)
   by_cases hij:i=j
   ·subst hij
    rw[Pa rfl]
    wp_walk
    exact⟨_,rfl,h⟩
   ·rw[OO hij]
    wp_walk
    exact⟨rfl,rfl,i+1,by omega,rfl⟩
  case fin =>
   rintro b s' ⟨rfl,rfl,k,hk,e⟩
   have hs:items.size - k=(items.size - (k+1))+1:=by omega
   rw[hs,List.range'_succ] at e
   cases e
  case h =>
   refine⟨rfl,rfl,0,Pg _,?_⟩
   simp
end
def JM(K:N_)(mg:Str->N7 N8)(x:Str)(ws:List Str):Prop:=∃a its n sl,mg x=some (.ref a)/\K.lookup a=some ⟨.type "tuple",none,.seq its n,sl⟩/\l4 (ws.map V.str) its.toList
section
variable{X:Cx}
def MZ(K:N_):V->List V->Hp->VK->Prop:=fun x vs H Q=>∃(p:N9) (its:Array N8) (n:Nat) (sl:Array (N7 N8)) (ws:List Str) (z:Str) (j:Nat),x=.ref p/\vs=[.str z]/\K.lookup p=some ⟨.type "tuple",none,.seq its n,sl⟩/\l4 (ws.map V.str) its.toList/\ws.findIdx? (·==z)=some j/\Q (.int (j:Nat)) H
theorem qH:Gi X "tuple.index" (MZ X.K):=by
 intro pins s σ H x vs v us Q I rx rv h
 obtain⟨p,its,n,sl,ws,z,j,rfl,rfl,hk,hv,hj,q⟩:=h
 cases (show v=_ from rx)
 obtain⟨u,rfl,t,rfl⟩:=rv.one
 have e:=I.kIn p _ hk
 obtain⟨h1,h2,h3⟩:=List.findIdx?_eq_some_iff_getElem.mp hj
 have hlen:ws.length=its.size:=by have:=hv.length;simpa using this
 refine call_meets F.slot_tuple_index ⟨_,e,rfl⟩ F.entry_tuple_index (F.args_tuple_index_2 _ _) (zE p its n none sl (.str z t) j (by omega)) ⟨e,fun i hi hle=>?_,?_⟩
 ·have hw:i<ws.length:=by omega
  obtain⟨u,hu,ru⟩:=hv.get (i:=i) (x:=.str ws[i]) (by simp[hw])
  obtain⟨t2,rfl⟩:=ru
  have he:its[i]=Value.str ws[i] t2:=by
   have:its[i]?=some (Value.str ws[i] t2):=by simpa using hu
   rw[Pq hi] at this
   exact Ow this
  rw[he]
  have hb:(ws[i]==z)=decide (i=j):=by
   by_cases hij:i=j
   ·subst hij
    rw[Pa rfl]
    exact h2
   ·rw[OO hij]
    exact Bool.eq_false_iff.mpr (h3 i (by omega))
  rw[<- hb]
  exact SeqAt.EqAt.str_str _ _ _ _
 ·exact⟨.int (j:Nat),H,I.tok _,⟨_,rfl⟩,q⟩
theorem qP{x:Str}{ws:List Str}{e:OG}{f:R->OD}{px ap cp:Pos}(hc:JM X.K X.mg x ws)(he:SE X e f)(hg:Gl X x:=by rfl)(hd:(x==("__debug__" : Str))=false:=by decide)
  (hbase:attributeBase (.Name x px) "index" X.env (eval (.Name x px) X.env)=eval (.Name x px) X.env:=by rfl) (hst:noStar e=true:=by rfl) (hline:(ap.endLine==cp.line)=true:=by rfl) :
  SE X (.Call (.Attribute (.Name x px) "index" ap) [e] [] cp) (vC (Fx ws) f):=by
 obtain⟨a,its,n,sl,hm,hk,hv⟩:=hc
 have hs:=aJ [] X.env hst
 refine(qp (T:="tuple") PySem.F.plainAttrs_tuple PySem.F.slot_tuple_index PySem.F.type_tuple_index qH (kn (v:=.ref a) hg hm rfl hd) (ac he af hst).1 hbase (by rw[hs];rfl) hline hs rfl).imp fun σ H Q ⟨ρ,d,er,e,q⟩=>?_
 obtain⟨y,e1,e⟩:=i5 e
 cases y with
 | str z =>
  obtain⟨j,e2,e3⟩:=rW e
  subst e3
  refine⟨.inr (.inl ⟨rfl,_,hk,rfl,rfl⟩),ρ,[.str z],er,by show(f ρ).bind _=_;rw[e1];rfl,fun vs H2 s2 r2=>?_⟩
  obtain⟨v,r',rfl,h1,h2⟩:=r2
  cases (show v=_ from h1)
  cases (show r'=[] from h2)
  exact⟨a,its,n,sl,ws,z,j,rfl,rfl,hk,hv,e2,q _ H2 s2 rfl⟩
 | _=>cases e
end
section
variable{X:Cx}
def NN:V->List V->Hp->VK->Prop:=fun x vs H Q=>∃z w,x=.str z/\vs=[]/\De z=some w/\Q (.str w) H
theorem Hq{z w:Str}(h:De z=some w):Builtin.Str.tooLong (placed z fun _ c=>Unicode.upperOf c).size=false/\(⟨placed z fun _ c=>Unicode.upperOf c⟩:Str)=w:=by
 unfold De at h
 split at h
 ·rename_i e;cases h;subst e;exact⟨by decide +kernel,by decide +kernel⟩
 ·split at h
  ·rename_i e;cases h;subst e;exact⟨by decide +kernel,by decide +kernel⟩
  ·split at h
   ·rename_i e;cases h;subst e;exact⟨by decide +kernel,by decide +kernel⟩
   ·cases h
theorem rA:Gi X "str.upper" NN:=by
 intro pins s σ H x vs v us Q I rx rv h
 obtain⟨z,w,rfl,rfl,hz,q⟩:=h
 obtain⟨t,rfl⟩:=rx
 cases rv
 obtain⟨f1,f2⟩:=Hq hz
 exact call_gives F.slot_str_upper (typeIs_str s z t) F.entry_str_upper (F.args_str_upper_1 _) (gives_str_upper z t f1) ⟨Nat.le_of_not_lt (of_decide_eq_false f1),.str w,H,I.tok _,⟨_,by rw[f2]⟩,q⟩
theorem ri{a:OG}{f:R->OD}{ap cp:Pos}(ha:SE X a f)(hbase:attributeBase a "upper" X.env (eval a X.env)=eval a X.env:=by rfl)(hline:(ap.endLine==cp.line)=true:=by rfl) :
  SE X (.Call (.Attribute a "upper" ap) [] [] cp) (vC ML f):=(qI (T:="str") PySem.F.plainAttrs_str PySem.F.slot_str_upper PySem.F.type_str_upper rA ha hbase hline).imp fun σ H Q ⟨ρ,d,er,e,q⟩=>by
 obtain⟨x,e1,e⟩:=i5 e
 cases x with
 | str z =>
  obtain⟨w,e2,e3⟩:=rW e
  subst e3
  exact⟨ρ,_,er,e1,fun v H1 s1 r1=>by cases (show v=_ from r1);exact⟨rfl,z,w,rfl,rfl,e2,q _ H1 s1 rfl⟩⟩
 | _=>cases e
end
section
variable{X:Cx}{i k:Nat}{fa:N9}{e a:OG}{es:List OG}{pos p:Pos}{f:R->OD}{F:R->N7 LD}{G:LD->OD}
def Mz(i:Nat)(fa:N9)(σ:L2.St):Prop:=σ[i]?=some (some (.ref fa))
def JU(X:Cx)(i:Nat)(fa:N9)(e:OG)(f:R->OD):Prop:=PE X e (fun σ H Q=>Mz i fa σ/\tD X.K f σ H Q)
def Ls(X:Cx)(i:Nat)(fa:N9)(es:List OG)(F:R->N7 LD):Prop:=PA X es (fun σ H Q=>Mz i fa σ/\KF X.K F σ H Q)/\(∀ ρ ds,F ρ=some ds->ds.length=es.length)/\es.all noStar=true
def Nk(X:Cx)(i:Nat)(fa:N9)(st:OE)(g:R->N7 Out):Prop:=PS X st (fun E σ H=>Mz i fa σ/\HC X.K g E σ H)
def KL(P:Oh)(w:Ot)(K:N_)(mg:Str->N7 N8)(base:OC)(k:Nat)(fa:N9)(G:LD->OD):Prop:=∃fd ps,k6 P w K mg base rV k fa fd ps (sQ K G)/\W.keepIn K (.ref fa)=true/\Binds K fd ps []
theorem sL{P:Oh}{w:Ot}{K:N_}{mg:Str->N7 N8}{base:OC}{x:Str}{ps:List Str}(C:m9 P w K mg base k x ps G)(h:mg x=some (.ref fa)):KL P w K mg base k fa G:=by
 obtain⟨f,fd,a,m,kp,bd⟩:=C.ex
 rw[h] at m
 cases m
 exact⟨fd,ps,a,kp,bd⟩
theorem I_(h:SE X e f):JU X i fa e f:=h.imp fun _ _ _ q=>q.2
theorem E9(h:SA X es F):Ls X i fa es F:=⟨h.1.imp fun _ _ _ q=>q.2,h.2⟩
theorem yX(ha:JU X i fa e f)(hr:Ls X i fa es F)(hs:noStar e=true:=by rfl):Ls X i fa (e::es) (e8 f F):=⟨(gb ha hr.1 (aJ es X.env hs)).imp fun σ H Q ⟨x,ρ,ds,er,e,q⟩=>by
 obtain⟨d,e1,e⟩:=i5 e
 obtain⟨y,e2,e⟩:=rW e
 subst e
 exact⟨x,ρ,d,er,e1,fun v H1 s1 r1=>⟨x,ρ,y,er.mono s1,e2,fun vs H2 s2 r2=>q _ H2 (s1.trans s2) (i8.cons (r1.mono s2) r2)⟩⟩,fun ρ ds e=>by
 obtain⟨d,e1,e⟩:=i5 e
 obtain⟨y,e2,e⟩:=rW e
 subst e
 simp[hr.2.1 ρ y e2],by rw[O2,hs,hr.2.2];rfl⟩
theorem EO{x:Str}{ps:List Str}(C:m9 X.prog X.w X.K X.mg X.base k x ps G)(hr:rO k X.A)(ha:Ls X i fa (e::es) F)(hg:Gl X x:=by rfl)
  (hdb:(x==("__debug__" : Str))=false:=by decide):JU X i fa (.Call (.Name x p) (e::es) [] pos) (h9 G F):=by
 have hst:=ha.2.2
 rw[O2,Oe] at hst
 have he:=aJ es X.env hst.1
 have hpl:=bQ (pos:=pos) (env:=X.env) hst.2
 obtain⟨f,fd,a,m,kp,bd⟩:=C.ex
 refine(jL a hr hg m kp bd .nil xE ha.1 hdb he hpl).imp fun σ H Q ⟨x,ρ,d,er,e,q⟩=>?_
 obtain⟨ds,e1,e⟩:=i5 e
 exact⟨x,ρ,ds,er,e1,fun vs H1 s1 r1=>⟨ds,d,by rw[OQ];exact r1,e,fun v H2 s2 r2=>q v H2 (s1.trans s2) r2⟩⟩
theorem Ha{k}(h:Ls X i fa es F)(hl:Nat.ble es.length 1000=true:=by rfl):JU X i fa (.Tuple es k pos) (rM F):=(mv h.1).imp fun σ H Q ⟨x,ρ,d,er,e,q⟩=>by
 obtain⟨ds,e1,e⟩:=rW e
 subst e
 refine⟨x,ρ,ds,er,e1,fun vs H1 s1 r1=>⟨?_,fun p hp=>?_⟩⟩
 ·rw[<- r1.length,h.2.1 ρ ds e1];exact Nat.le_of_lt (wo (Nat.le_of_ble_eq_true hl))
 ·have s2:=bh hp (.tup vs)
  exact q _ _ (s1.trans s2) ⟨p,vs,rfl,vg.of av,r1.mono s2⟩
theorem zT{x:Str}(hF:KL X.prog X.w X.K X.mg X.base k fa G)(hr:rO k X.A)(ha:SA X (e::es) F)(hN:X.N[i]?=some x:=by rfl)(hv:BS X.env.scope x:=by first | exact Or.inl rfl | exact Or.inr (Or.inl rfl) | exact Or.inr (Or.inr rfl))
  (hd:(x==("__debug__" : Str))=false:=by decide) (hcd:(x==("__classdict__" : Str))=false:=by decide):JU X i fa (.Call (.Name x p) (e::es) [] pos) (h9 G F):=by
 have hst:=ha.2.2
 rw[O2,Oe] at hst
 have he:=aJ es X.env hst.1
 have hpl:=bQ (pos:=pos) (env:=X.env) hst.2
 obtain⟨fd,ps,a,kp,bd⟩:=hF
 intro pins s σ H Q I h
 obtain⟨x1,ρ,d,er,e,q⟩:=h
 obtain⟨ds,e1,e⟩:=i5 e
 refine Pc (sh (jG (pos:=p) hN hv hd hcd pins s σ H (fun v H1=>v=.ref fa/\H1=H) I ⟨.ref fa,x1,rfl,rfl⟩) fun u s1 ⟨v,H1,I1,rv,ev,eH⟩=>?_)
 subst ev eH
 cases (show u=_ from rv)
 refine W.callWith_K (h₀:=X.base) I1.ok.mod.kin kp (sh (ha.1 pos pins s1 σ H1 (fun vs H2=>i9 H1 H2/\i8 X.K H2 ds vs) I1 ⟨ρ,ds,er,e1,fun vs H2 s2 r2=>⟨s2,r2⟩⟩) fun us s2 ⟨vs,H2,I2,r,s12,rp⟩=>⟨I2.kIn,?_⟩) he hpl
 exact yN a hr bd .nil xE I2 r ⟨ds,d,by rw[OQ];exact rp,e,fun v H3 s3 r3=>q v H3 (s12.trans s3) r3⟩
theorem ES(ha:JU X i fa a f):Nk X i fa (.Return (some a) pos) (l6 f):=(j4 ha).imp fun E σ H ⟨x,ρ,τ,o,er,e,q⟩=>by
 obtain⟨d,e1,e⟩:=rW e
 subst e
 exact⟨x,ρ,d,er.1,e1,fun v H1 s1 r1=>q H1 s1 v r1⟩
inductive Tab (P:Oh) (w:Ot) (K:N_) (mg:Str->N7 N8) (base:OC) (k:Nat):List (Str×(LD->OD))->List (Str×N8)->Prop
 | nil:Tab P w K mg base k [] []
 | cons {z:Str} {G:LD->OD} {fa:N9} {t:List (Str×(LD->OD))} {vs:List (Str×N8)}:KL P w K mg base k fa G->Tab P w K mg base k t vs->Tab P w K mg base k ((z,G)::t) ((z,.ref fa)::vs)
theorem Tab.get{P:Oh}{w:Ot}{K:N_}{mg:Str->N7 N8}{base:OC}{t:List (Str×(LD->OD))}{vs:List (Str×N8)}(h:Tab P w K mg base k t vs){z:Str}(e:t.lookup z=some G):∃fa,valueAt vs z=some (.ref fa)/\KL P w K mg base k fa G:=by
 induction h with
 | nil=>cases e
 | @cons y G' fa t vs h1 h2 ih =>
  unfold valueAt
  rw[List.find?_cons]
  by_cases hz:y=z
  ·subst hz
   rw[List.lookup_cons,beq_self_eq_true] at e
   cases e
   simp
   exact h1
  ·rw[List.lookup_cons,OP.mpr (fun q=>hz q.symm)] at e
   obtain⟨fb,q1,q2⟩:=ih e
   refine⟨fb,?_,q2⟩
   unfold valueAt at q1
   simp[hz]
   simpa using q1
def Bq(P:Oh)(w:Ot)(K:N_)(mg:Str->N7 N8)(base:OC)(k:Nat)(T:Str)(t:List (Str×(LD->OD))):Prop:=∃a vs,mg T=some (.ref a)/\(∀h:OC,K.In h->h.DictOf (strKind P w) a vs)/\Tab P w K mg base k t vs
def entries(w:Ot):List (Str×Tok×N8)->List DictEntry
 | []=>[]
 | (z,t,v)::r=>{hash:=PyData.keyHash w.params z,key:=.str z t,val:=v}::entries w r
theorem le{P:Oh}{w:Ot}{K:N_}{a:N9}{n:Nat}(l:List (Str×Tok×N8))(hk:K.lookup a=some ⟨.type "dict",none,.dict (entries w l).toArray n,#[]⟩)(hn:(l.map (·.1)).Nodup)(h:OC)(X:K.In h) :
  h.DictOf (strKind P w) a (l.map fun p=>(p.1,p.2.2)):=by
 refine⟨_,_,_,X _ _ hk,⟨rfl,rfl,rfl⟩,rfl,?_,?_,?_⟩
 ·intro e he
  have he':e∈entries w l:=by simpa using he
  clear he hk hn
  induction l with
  | nil=>cases he'
  | cons p l ih =>
   obtain⟨z,t,v⟩:=p
   rcases Oj.mp he' with rfl | h2
   ·exact⟨z,strKind_is P w z t,rfl⟩
   ·exact ih h2
 ·show Pairs _ (entries w l) _
  clear hk hn
  induction l with
  | nil=>exact .nil
  | cons p l ih =>
   obtain⟨z,t,v⟩:=p
   exact .cons (strKind_is P w z t) rfl ih
 ·rw[List.map_map]
  exact hn
theorem se.hide{K:N_}{H:Hp}{ρ:R}{σ:L2.St}(e:se K H ρ σ)(i:Nat)(v:N7 V):se K H (ρ.set i none) (σ.set i v):=by
 refine⟨by simpa using e.1,fun j c h=>?_⟩
 by_cases hj:i=j
 ·subst hj
  by_cases hi:i<ρ.length
  ·rw[O5 hi] at h
   cases h
  ·rw[Pt (by simpa using hi)] at h
   cases h
 ·rw[O8 hj] at h ⊢
  exact e.2 j c h
theorem qm{T x:Str}{pt px ps:Pos}{st:OE}{t:List (Str×(LD->OD))}{g:(LD->OD)->R->N7 Out}(i:Nat)(hN:X.N.Nodup)(hT:Bq X.prog X.w X.K X.mg X.base k T t)(he:SE X e f)(hb:∀fa G,KL X.prog X.w X.K X.mg X.base k fa G->Nk X i fa st (g G))
  (hg:Gl X T:=by rfl) (hi:X.N[i]?=some x:=by rfl) (hx:Loc X.env.scope x:=by first | exact Or.inl rfl | exact Or.inr rfl) (hs:Aw e:=by intro _ _;rfl)
  (hw:swapsWith (.Subscript (.Name T pt) e ps) (some (.Name x px)) pos.line X.env=pure false:=by rfl) (hf:X.fn x=true\/X.env.scope.names.lookup x=some .local:=by first | exact .inl rfl | exact .inr rfl) (hdb:(T==("__debug__" : Str))=false:=by decide) :
  SS X [.Assign [.Name x px] (.Subscript (.Name T pt) e ps) pos,st] (J0 i t f g):=by
 obtain⟨a,vs,hm,hd,ht⟩:=hT
 have hix:IxR X (fun x y H Q=>∃z fa,x=.ref a/\y=.str z/\valueAt vs z=some (.ref fa)/\Q (.ref fa) H):=by
  intro value slice pins s σ H x y v u Q I rx ry h hs
  obtain⟨z,fa,rfl,rfl,hv,q⟩:=h
  cases rx
  obtain⟨tk,rfl⟩:=ry
  have hdd:=hd s.heap I.kIn
  exact tail_any hdd.mapOf.typeIs PySem.F.slot_dict_getitem.lookup (wpAny_getItem_of (strKind_is X.prog X.w z tk) hdd.mapOf hv ⟨.ref fa,H,I.tok _,rfl,q⟩) hs
 have hsub:=qk (pos:=ps) hix (kn (pos:=pt) (v:=.ref a) hg hm rfl hdb) he hs
 intro pins s σ H E I h
 obtain⟨ρ,τ,o,er,ef,q⟩:=h
 obtain⟨d,e1,ef⟩:=i5 ef
 cases d with
 | str z =>
  obtain⟨G,e2,e3⟩:=i5 ef
  obtain⟨fa,hv,hF⟩:=ht.get e2
  have hl:i<σ.length:=by
   rw[I.len]
   exact(OI.mp hi).1
  split at e3
  case isFalse=>cases e3
  case isTrue hlt =>
  refine dM (gx hN hi hx hsub hw hf) (dh (hb fa G hF)) pins s σ H E I ?_
  refine⟨ρ,_,er.1,e1,fun v H1 s1 r1=>⟨z,fa,rfl,r1,hv,?_⟩⟩
  refine⟨O5 hl,ρ.set i none,τ,o,⟨(er.1.mono s1).hide i _,?_⟩,e3,fun H2 s2=>q H2 (s1.trans s2)⟩
  rw[Pk,List.drop_set_of_lt hlt]
  exact er.2
 | _=>cases ef
end
section
variable{X:Cx}
end
end HW
namespace HW
open PySem
def Df:LD->N7 (List Str)
 | []=>some []
 | d::r=>(sI d).bind fun x=>(Df r).map fun xs=>x::xs
def BJ(sep:Str)(xs:List Str):N7 Str:=if xs.toArray.foldl (fun n x=>n+x.length+sep.length) 0<=sizeLine/\(Builtin.Str.glued sep xs).length<=sizeLine then some (Builtin.Str.glued sep xs) else none
@[simp] def Nt:LD->OD
 | [.str s,.lst ds]=>(Df ds).bind fun xs=>(BJ s xs).map .str
 | _=>none
@[simp] def AO:LD->OD
 | [.str s,.lst ds]=>(Df ds.reverse).bind fun xs=>(BJ s xs).map .str
 | _=>none
noncomputable def HU(x:Str)(n c:Nat):Str:=if n<=x.length then x else Builtin.Str.padded x (n - x.length) 0 c
@[simp] def K9:LD->OD
 | [.str x,.int i,.str f]=>if 0<=i/\i<=1000/\f.length=1 then some (.str (HU x i.toNat (f.cps.getD 0 0))) else none
 | _=>none
@[simp] def Eb (c:R->N7 Bool):R->N7 Out:=fun ρ=>(c ρ).bind fun b=>if b then none else some (.nx ρ)
end HW
namespace HW
open PySem PySem.Spec PyProof.Rows L2
section
variable{X:Cx}{a:OG}{f:R->OD}{pos p2:Pos}
end
theorem N5{us:List N8}(h:us.length=1):∃x0,us=[x0]:=by
 match us,h with
 | [x0],_=>exact⟨x0,rfl⟩
theorem ln2{us:List N8}(h:us.length=2):∃x0 x1,us=[x0,x1]:=by
 match us,h with
 | [x0,x1],_=>exact⟨x0,x1,rfl⟩
theorem N6{us:List N8}(h:us.length=3):∃x0 x1 x2,us=[x0,x1,x2]:=by
 match us,h with
 | [x0,x1,x2],_=>exact⟨x0,x1,x2,rfl⟩
section
variable{X:Cx}
def Nj(X:Cx)(id:String)(G:LD->OD):Prop:=Gi X id fun x vs H Q=>∃dx ds d,Rep X.K H dx x/\i8 X.K H ds vs/\G (dx::ds)=some d/\∀v H',i9 H H'->Rep X.K H' d v->Q v H'
theorem rj {a e:OG} {es:List OG} {f:R->OD} {F:R->N7 LD} {G:LD->OD} {name:Str} {id:String} {ap cp:Pos} (slot:Slot "str" name id)
    (hty:typeOf (.builtin id)=pure (.type "method_descriptor")) (hm:Nj X id G) (hG:∀x ds d,G (x::ds)=some d->∃z,x=.str z) (ha:SE X a f) (hF:SA X (e::es) F)
    (hbase:attributeBase a name X.env (eval a X.env)=eval a X.env:=by rfl)
    (hfew:((backTo cp (starEach (e::es) X.env)).all (fun x=>!x.1)&&(backToKw cp (keywordEach [] X.env)).all (fun x=>x.1.isSome)
      && decide ((e::es).length+([]:List Keyword).length+(if ([]:List Keyword).isEmpty then 0 else 1)<30))=true:=by rfl)
    (hline:(ap.endLine==cp.line)=true:=by rfl) :
    SE X (.Call (.Attribute a name ap) (e::es) [] cp) (h9 G (e8 f F)):=by
  have hst:=hF.2.2
  rw[O2,Oe] at hst
  refine(qp (T:="str") PySem.F.plainAttrs_str slot hty hm ha hF.1 hbase hfew hline (aJ es X.env hst.1) (bQ (pos:=cp) (env:=X.env) hst.2)).imp fun σ H Q ⟨ρ,d,er,e,q⟩=>?_
  obtain⟨dd,e1,e⟩:=i5 e
  obtain⟨x,e2,e1⟩:=i5 e1
  obtain⟨ds,e3,e1⟩:=rW e1
  subst e1
  obtain⟨z,rfl⟩:=hG x ds d e
  exact⟨ρ,_,er,e2,fun v H1 s1 r1=>⟨by cases (show v=_ from r1);exact rfl,ρ,ds,er.mono s1,e3,fun vs H2 s2 r2=>⟨.str z,ds,d,r1.mono s2,r2,e,fun u H3 s3 r3=>q u H3 (s1.trans (s2.trans s3)) r3⟩⟩⟩
theorem zZ:∀{K:N_} {H:Hp} {ds:LD} {vs:List V} {us:List N8} {xs:List Str},Df ds=some xs->i8 K H ds vs->l4 vs us->∃l:List (Str×Tok),us=strValues l/\l.map (·.1)=xs
 | _,_,[],vs,us,xs,e,r,h=>by
  cases e
  cases (show vs=[] from r)
  cases h
  exact⟨[],rfl,rfl⟩
 | K,H,d::ds,vs,us,xs,e,r,h=>by
  obtain⟨x,e1,e⟩:=i5 e
  obtain⟨ys,e2,rfl⟩:=rW e
  obtain⟨v,vs',rfl,r1,r2⟩:=r
  have hv:=DH e1 r1
  subst hv
  cases h with
  | cons h1 h2 =>
   obtain⟨t,rfl⟩:=h1
   obtain⟨l,rfl,rfl⟩:=zZ e2 r2 h2
   exact⟨(x,t)::l,rfl,rfl⟩
theorem D5{sep:Str}{l:List (Str×Tok)}{pins:List (N9×Obj)}{σ:L2.St}{H:Hp}{s:Oa}{Q:VK}(I:L2.Inv X pins σ H s)(hz:(Builtin.Str.glued sep (l.map (·.1))).length<=sizeLine)
  (q:Q (.str (Builtin.Str.glued sep (l.map (·.1)))) H):(joinMade sep l).post (EP X pins σ Q) s:=by
 have key:∀t,EP X pins σ Q (.str (Builtin.Str.glued sep (l.map (·.1))) t) s:=fun t=>⟨.str _,H,I,⟨t,rfl⟩,q⟩
 match l,hz,key with
 | [],hz,key=>exact⟨hz,.str _,H,I.tok _,⟨_,rfl⟩,q⟩
 | [p],hz,key=>exact key p.2
 | p1::p2::r,hz,key=>exact⟨hz,.str _,H,I.tok _,⟨_,rfl⟩,q⟩
theorem Fv(x:Str)(i:Int)(c:Nat)(t u u2:Tok)(h0:0<=i)(h1:i<=1000) :
  Gives (Builtin.«str.rjust» ⟨[.str x t,.int i u,.str ⟨#[c]⟩ u2],[]⟩) (if i<=x.length then .val (.str x t) else .str (Builtin.Str.padded x (i.toNat - x.length) 0 c)):=by
 have ei:Builtin.Str.asSsize (toString "str." ++ toString "rjust") (.int i u)=pure i:=asSsize_int _ _ _ (by rw[OO (by omega),OO (by omega)];rfl)
 have ez:Builtin.Str.tooLong i.toNat=false:=OO (by
  have z:1000<=sizeLine:=by decide
  omega)
 have eb:Builtin.«str.rjust» ⟨[.str x t,.int i u,.str ⟨#[c]⟩ u2],[]⟩=(Builtin.Str.asSsize (toString "str." ++ toString "rjust") (.int i u) >>= fun n =>
   if n<=(x.length:Int) then (do rule (toString "str." ++ toString "rjust" ++ toString ".long-enough");ret (.str x t))
   else if Builtin.Str.tooLong n.toNat=true then unsupported (toString "str." ++ toString "rjust" ++ toString ":memory") else retStr (Builtin.Str.padded x (n.toNat - x.length) 0 c)):=rfl
 rw[eb,ei]
 show Gives (if i<=(x.length:Int) then _ else if Builtin.Str.tooLong i.toNat=true then _ else _) _
 rw[ez]
 split
 ·exact Gives.rule (Gives.of_eq rfl)
 ·exact Gives.of_eq rfl
end
section
variable{prog:Oh}{w:Ot}{A:OJ}{E:N8->Oa->Prop}{s:Oa}
theorem D1:typeLookup (.type "list_reverseiterator") "__len__" = pure none:=by
 rw[typeLookup_type,builtinLookup_eq_fast];kernel_rfl -- list_reverseiterator
theorem E4:typeLookup (.type "list_reverseiterator") "__length_hint__" = pure (some (.builtin "list_reverseiterator.__length_hint__")):=by
 rw[typeLookup_type,builtinLookup_eq_fast];kernel_rfl -- list_reverseiterator
abbrev Dk(its:Array N8)(i:Nat)(v:N8):Prop:=its[its.size - 1 - i]?=some v
theorem BK{Q:List N8->Oa->Prop}{j l:N9}{its:Array N8}(hh:A.handled=none)(hne:l≠j)(hj:s.heap.IsRevIter j l ((its.size:Int) - 1))(hl:s.heap.IsList l its)(hz:its.size<=sizeLine)
  (hQ:∀s' acc,Moved [j] (fun a b=>b=a) s s'->ItemsOf (Dk its) acc its.size->Q acc.toList s'):wpAny (model prog w) A (collect (.ref j)) Q E s:=by
 have W:=(Walks.listRev (prog:=prog) (w:=w) (A:=A.in1) hh j l hne its).toS
 have st0:(0<=its.size/\s.heap.IsRevIter j l ((its.size:Int) - 1 - ((0:Nat):Int))/\s.heap.IsList l its):=⟨Pg _,by rw[show(its.size:Int) - 1 - ((0:Nat):Int)=(its.size:Int) - 1 by omega];exact hj,hl⟩
 have hjs:j<s.heap.objs.size:=let ⟨o,ho,_⟩:=hj;Om ho
 have hls:l<s.heap.objs.size:=let ⟨o,ho,_⟩:=hl;Om ho
 have hnf:s.heap.objs.size ∉ [j,l]:=fun hm=>by
  rcases Oj.mp hm with ej | hm'
  ·exact OA hjs (by rw[ej];exact OX _)
  ·exact OA hls (by rw[Od.mp hm'];exact OX _)
 unfold collect
 refine Ob (wpAny_runValue (Pp PySem.F.entry_proto_collect ?_))
 rw[Around.under_plainId PySem.F.plain_proto_collect _];show wpAny _ A.in1 (newList [] >>= fun q=>again (.builtin "list.__iadd__" ⟨[q,.ref j],[]⟩)) _ _ s
 refine Ob (Pd (Ou ⟨plainId_quiet PySem.F.plain_list_iadd _,Pp PySem.F.entry_list_iadd ?_⟩));rw[Around.under_plainId PySem.F.plain_list_iadd _]
 have st1:=W.frame 0 s (s.heap.push {cls:=.type "list",data:=.seq ([]:List N8).toArray}) s.toks st0 (Oo _) fun b _ o e=>Og _ e
 have new1:(s.heap.push {cls:=.type "list",data:=.seq ([]:List N8).toArray}).get? s.heap.objs.size=some {cls:=.type "list",data:=.seq ([]:List N8).toArray}:=Ox _ rfl
 have ne1:Builtin.List.listSameRef (.ref s.heap.objs.size) (.ref j)=false:=by
  have:s.heap.objs.size≠j:=fun e=>hnf (by rw[e];exact ON)
  simp[Builtin.List.listSameRef,this]
 have ty1:=(show _ from st1).2.1.typeIs (s:={s with heap:=s.heap.push {cls:=.type "list",data:=.seq ([]:List N8).toArray} })
 show wpAny _ A.in1 (Builtin.List.listExtendWith (.ref s.heap.objs.size) (.ref j) (.ref s.heap.objs.size)) _ _ _
 unfold Builtin.List.listExtendWith;refine Ob (wpAny_typeOf ty1 ?_)
 rw[Ov (by rw[ne1];decide)]
 refine Ob (W.self 0 _ _ _ st1 (Ob (wpAny_holding ?_)));unfold Builtin.List.listLengthHint
 refine Ob (wpAny_specialOf ty1 D1 ?_)
 show wpAny _ A.in1 (specialOf (Value.ref j) (oS "__length_hint__") >>= _) _ _ _
 refine Ob (wpAny_specialOf ty1 E4 ?_)
 generalize Kq:("list_reverseiterator.__length_hint__" : String)=nm
 wp_delta
 rw[show splitId nm=some ("list_reverseiterator","__length_hint__") from by subst Kq;decide +kernel]
 subst Kq
 refine Ob (wpAny_isInstance (b:=true) ty1 (by rw[isSubtype_type];kernel_rfl) ?_)
 refine Ou ?_
 rw[Ov (by decide)]
 refine Ou ⟨plainId_quiet PySem.F.plain_extend_loop _,codeAny_extend_loopS W hz _ hnf _ its.size 0 _ _ _ rfl (Pg _) st1 new1 (ItemsOf.nil (Dk its)) fun s' acc' c' hm hS' hacc=>?_⟩
 show wpAny _ A (load s.heap.objs.size >>= _) _ _ s';exact Ob (wpAny_load hS' (Ou (hQ s' acc' (Moved.drop_new (o:={cls:=.type "list",data:=.seq ([]:List N8).toArray}) (tk:=s.toks) hm (Oo _)) hacc)))
theorem Ei{lv:List (Str×Tok)}{acc:Array N8}(h:ItemsOf (Dk (strValues lv).toArray) acc (strValues lv).toArray.size):acc.toList=strValues lv.reverse:=by
 have hn:(strValues lv).toArray.size=lv.length:=by simp[strValues]
 have hr:strValues lv.reverse=(strValues lv).reverse:=by simp[strValues]
 rw[hr]
 have hs:acc.size=lv.length:=h.1.trans hn
 have hl:(strValues lv).length=lv.length:=by simp[strValues]
 refine List.ext_getElem (by rw[List.length_reverse,Pf,hs,hl]) fun i h1 h2=>?_
 have h3:i<acc.size:=by simpa using h1
 have z:=h.2 i acc[i] (Pq h3)
 unfold Dk at z
 rw[hn] at z
 have hi:i<lv.length:=by omega
 have z2:(strValues lv)[lv.length - 1 - i]?=some acc[i]:=by simpa using z
 rw[List.getElem_reverse]
 have h4:lv.length - 1 - i<(strValues lv).length:=by omega
 rw[List.getElem?_eq_getElem h4] at z2
 have z3:=Ow z2
 rw[Array.getElem_toList]
 simp only[hl]
 exact z3.symm
theorem Cf(sep:Str)(l:List (Str×Tok))(h:Builtin.Str.tooLong ((l.map (·.1)).toArray.foldl (·+·.length+sep.length) 0)=false):Gives (joinTail sep (strValues l)) (joinMade sep l):=by
 match l,h with
 | [],h=>exact gives_joinTail sep [] h
 | [a],h=>exact gives_joinTail sep [a] h
 | a::b::r,h=>exact gives_joinTail sep (a::b::r) h
theorem Fm{Q:N8->Oa->Prop}{sep:Str}{t:Tok}{j l:N9}{lv:List (Str×Tok)}(hh:A.handled=none)(hne:l≠j)(hj:s.heap.IsRevIter j l ((lv.length:Int) - 1))(hl:s.heap.IsList l (strValues lv).toArray)(hz:lv.length<=sizeLine)
  (hg:Builtin.Str.tooLong ((lv.reverse.map (·.1)).toArray.foldl (·+·.length+sep.length) 0)=false) (hQ:∀s',Moved [j] (fun a b=>b=a) s s'->(joinMade sep lv.reverse).post Q s') :
  wpAny (model prog w) A (call (.builtin "str.join") [.str sep t,.ref j]) Q E s:=by
 have hn:(strValues lv).toArray.size=lv.length:=by simp[strValues]
 refine wpAny_call (codeAny_call_builtin PySem.F.slot_str_join.plain PySem.F.entry_str_join (PySem.F.slot_str_join.check _ _ _ _ _ _ _ _ (typeIs_str _ _ _) (PySem.F.args_str_join_2 _ _) ?_))
 rw[join_tree_other]
 refine Ob (wpAny_typeOf hj.typeIs ?_)
 show wpAny _ A.in1 ((pyIter (.ref j)).tryCatch _ >>= fun it=>collect it >>= fun items=>joinTail sep items) _ _ s
 refine Ob (wpAny_tryCatch (wpAny_pyIter_revIter hj (Ob (BK (A:=A.in1) hh hne (by rw[hn];exact hj) hl (by rw[hn];exact hz) fun s' acc hm hacc=>?_))))
 rw[Ei hacc]
 exact Cf sep lv.reverse hg prog w A (wants Q E) s' (hQ s' hm)
end
section
variable{X:Cx}
theorem oQ {a e:OG} {f g:R->OD} {ap cp pr p2:Pos} (hc:X.calm=true) (hm:X.mg "reversed" = none) (ha:SE X a f) (he:SE X e g) (hg:Gl X "reversed":=by rfl) (hst:noStar e=true:=by rfl)
    (hbase:attributeBase a "join" X.env (eval a X.env)=eval a X.env:=by rfl)
    (hfew:((backTo cp (starEach [.Call (.Name "reversed" pr) [e] [] p2] X.env)).all (fun x=>!x.1)&&(backToKw cp (keywordEach [] X.env)).all (fun x=>x.1.isSome)
      && decide ([Expr.Call (.Name "reversed" pr) [e] [] p2].length+([]:List Keyword).length+(if ([]:List Keyword).isEmpty then 0 else 1)<30))=true:=by rfl)
    (hline:(ap.endLine==cp.line)=true:=by rfl) :
    SE X (.Call (.Attribute a "join" ap) [.Call (.Name "reversed" pr) [e] [] p2] [] cp) (h9 AO (e8 f (e8 g g5))):=by
  intro pins s σ H Q I hw
  obtain⟨ρ,d,er,e0,q⟩:=hw
  obtain⟨dd,e1,e0⟩:=i5 e0
  obtain⟨x,e2,e1⟩:=i5 e1
  obtain⟨ds,e3,e1⟩:=rW e1
  subst e1
  obtain⟨y,e4,e3⟩:=i5 e3
  cases e3
  match x,y,e0 with
  | .str sep,.lst es,e0 =>
    obtain⟨xs,e5,e0⟩:=i5 e0
    obtain⟨wd,e6,rfl⟩:=rW e0
    unfold BJ at e6
    split at e6
    · rename_i hz
      cases e6
      have hst1:=aJ [] X.env hst
      refine wpAny_Call_method_late hbase hfew hline rfl (sh (ha pins s σ H (fun v H1=>i9 H H1/\Rep X.K H1 (.str sep) v) I ⟨ρ,_,er,e2,fun v H1 s1 r1=>⟨s1,r1⟩⟩) fun v s1 ⟨vx,H1,I1,r1,s01,rp⟩=>?_)
      cases (show vx=_ from rp)
      obtain⟨t,rfl⟩:=r1
      obtain⟨h1,h2⟩:=Cb (T:="str") (x:=.str sep) I1 ⟨t,rfl⟩ rfl
      refine⟨"str","str.join",PySem.F.plainAttrs_str,PySem.F.slot_str_join,PySem.F.type_str_join,h1,h2,?_⟩
      refine Calls.callWith_builtin rfl (Calls.evalArgs_plain (Calls.spliced_cons ?_))
      refine Pc (gy I1 hg hm (u:=.type "reversed") (by kernel_rfl) ?_)
      refine callWith_type1 ?_ hst1 rfl
      rw[hst1]
      refine Calls.spliced_cons (sh (he pins s1 σ H1 (fun v H2=>i9 H1 H2/\Rep X.K H2 (.lst es) v) I1 ⟨ρ,_,er.mono s01,e4,fun v H2 s2 r2=>⟨s2,r2⟩⟩) fun u s2 ⟨vu,H2,I2,ru,s12,rl⟩=>Calls.spliced_nil ?_)
      obtain⟨b,vs,rfl,hq,ts⟩:=rl
      cases (show u=_ from ru)
      obtain⟨its,rr,ht,hlen⟩:=I2.list (uJ.of hq)
      obtain⟨lv,hu,hx⟩:=zZ e5 ts.reverse (kR rr)
      have hi:its=strValues lv.reverse:=by
        have z:=congrArg List.reverse hu
        rw[List.reverse_reverse] at z
        rw[z];simp[strValues]
      subst hi
      subst hx
      have hlb:b<s2.heap.objs.size:=let ⟨o,ho,_⟩:=ht.isList;Om ho
      have hn:(strValues lv.reverse).toArray.size=lv.reverse.length:=by simp[strValues]
      have hlv:lv.reverse.length<=sizeLine:=by rw[<- hn,On,<- rr.length];exact hlen
      refine call_reversed_list ht.isList (Calls.spliced_nil ?_)
      refine Fm (I1.ok.hd hc) (lv:=lv.reverse) (OL hlb) ⟨_,Ox _ rfl,rfl,by rw[hn];rfl⟩ (ht.isList.at fun o ho=>Og _ ho) hlv ?_ fun s' hm=>?_
      · rw[List.reverse_reverse]
        exact OO (Nat.not_lt.mpr hz.1)
      · rw[List.reverse_reverse]
        have I3:L2.Inv X pins σ H2 s':=by
          rw[hm.eq_with]
          exact I2.kept fun c o ho=>hm.heap c o (fun hc=>OA (Om ho) (by rw[Od.mp hc];exact OX _)) (Og _ ho)
        exact D5 I3 hz.2 (q _ H2 (s01.trans s12) rfl)
    · cases e6
theorem oz{c:OG}{body:List OE}{f:R->N7 Bool}{pos:Pos}(hp:PassesOwn (model X.prog X.w) X.A X.env X.xe)(hc:ST X c f):S1 X (.While c body [] pos) (Eb f):=by
 have hb:PSs X body (fun _ _ _=>False):=fun pins s σ H D I h=>h.elim
 refine(oY hp hc hb).imp fun E σ H ⟨ρ,τ,o,er,e,q⟩=>?_
 obtain⟨b,e1,e⟩:=i5 e
 cases b with
 | true=>cases e
 | false =>
  cases e
  refine⟨fun m σ' H'=>σ'=σ/\H'=H,⟨0,rfl,rfl⟩,?_⟩
  rintro m _ _ ⟨rfl,rfl⟩
  exact⟨ρ,false,er.1,e1,fun H1 s1=>(Ov (show ¬ (false=true) from Oi)).mpr (q H1 s1 _ (er.mono s1))⟩
theorem rm:Nj X "str.rjust" K9:=by
 intro pins s σ H x vs v us Q I rx rv h
 obtain⟨dx,ds,d,r1,r2,e,q⟩:=h
 match dx,ds,e with
 | .str z,[.int i,.str g],e =>
  replace e:(if 0<=i/\i<=1000/\g.length=1 then some (D.str (HU z i.toNat (g.cps.getD 0 0))) else none)=some d:=e
  split at e
  ·rename_i hz
   obtain⟨h0,h1,hg⟩:=hz
   cases e
   cases (show x=_ from r1)
   obtain⟨t,rfl⟩:=rx
   obtain⟨u,r',rfl,k1,r2⟩:=r2
   obtain⟨u2,r3,rfl,k2,r2⟩:=r2
   cases (show r3=[] from r2)
   cases (show u=_ from k1)
   cases (show u2=_ from k2)
   obtain⟨w1,w2,rfl,⟨t1,rfl⟩,⟨t2,rfl⟩⟩:=rv.two
   obtain⟨c,hc⟩:∃c,g=⟨#[c]⟩:=by
    obtain⟨⟨l⟩⟩:=g
    match l,hg with
    | [c],_=>exact⟨c,rfl⟩
   subst hc
   have hi:(i.toNat:Int)=i:=by omega
   refine call_gives PySem.F.slot_str_rjust (typeIs_str s z t) PySem.F.entry_str_rjust (PySem.F.args_str_rjust_3 _ _ _) (Fv z i c t t1 t2 h0 h1) ?_
   have q':=q (.str (HU z i.toNat c)) H (i9.refl H) rfl
   unfold HU at q'
   by_cases hl:i.toNat<=z.length
   ·rw[Of hl] at q'
    rw[Of (by omega)]
    exact⟨.str z,H,I,⟨t,rfl⟩,q'⟩
   ·rw[Ov hl] at q'
    rw[Ov (by omega)]
    refine⟨?_,.str _,H,I.tok _,⟨_,rfl⟩,q'⟩
    have z1:1000<=sizeLine:=by decide
    have z2:(Builtin.Str.padded z (i.toNat - z.length) 0 c).length=i.toNat:=by
     show(Array.replicate _ _++z.cps++Array.replicate _ _).size=_
     simp
     have:z.cps.size=z.length:=rfl
     omega
    rw[z2]
    omega
  ·cases e
theorem IL{x:D}{ds:LD}{d:D}(h:K9 (x::ds)=some d):∃z,x=.str z:=by
 cases x with
 | str z=>exact⟨z,rfl⟩
 | _=>cases h
theorem rF{a e:OG}{es:List OG}{f:R->OD}{F:R->N7 LD}{ap cp:Pos}(ha:SE X a f)(hF:SA X (e::es) F)
  (hbase:attributeBase a "rjust" X.env (eval a X.env)=eval a X.env:=by rfl)
  (hfew:((backTo cp (starEach (e::es) X.env)).all (fun x=>!x.1)&&(backToKw cp (keywordEach [] X.env)).all (fun x=>x.1.isSome)&&decide ((e::es).length+([]:List Keyword).length+(if ([]:List Keyword).isEmpty then 0 else 1)<30))=true:=by rfl)
  (hline:(ap.endLine==cp.line)=true:=by rfl):SE X (.Call (.Attribute a "rjust" ap) (e::es) [] cp) (h9 K9 (e8 f F)):=
 rj PySem.F.slot_str_rjust PySem.F.type_str_rjust rm (fun _ _ _ h=>IL h) ha hF hbase hfew hline
end
section
variable{X:Cx}
end
section
variable{X:Cx}
end
section
variable{X:Cx}{pins:List (N9×Obj)}{σ:L2.St}{H:Hp}{s:Oa}{k:Nat}{y:Str}
def Kq(X:Cx)(k:Nat)(y:Str):Cx:={X with N:=X.N.set k y}
end
end HW
namespace HW
open PySem
section
variable{prog:Oh}{w:Ot}{A:OJ}{E:N8->Oa->Prop}{g:_}{d:_}{os:_}
structure Nx (prog:Oh) (w:Ot) (A:OJ) (mk:OC->Nat->Oa) (Good:OC->Nat->Prop) (it:N9) (st st':OC->Prop) (P:N8->Prop):Prop where
 stay:∀h h',st h->(∀o,h.get? it=some o->h'.get? it=some o)->st h'
 stay':∀h h',st' h->(∀o,h.get? it=some o->h'.get? it=some o)->st' h'
 run:∀h tk (Q:N8->Oa->Prop) (E:N8->Oa->Prop),Good h tk->st h->(∀u h' tk',P u->st' h'->Heap.SameBut it h h'->Q u (mk h' tk')) ->
  wpAny (model prog w) A (Builtin.SmallTypes.nextOf (.ref it)) Q E (mk h tk)
structure Ne (prog:Oh) (w:Ot) (A:OJ) (mk:OC->Nat->Oa) (Good:OC->Nat->Prop) (it:N9) (st:OC->Prop):Prop where
 stay:∀h h',st h->(∀o,h.get? it=some o->h'.get? it=some o)->st h'
 run:∀h tk (Q:N8->Oa->Prop) (E:N8->Oa->Prop),Good h tk->st h->(∀h' e,Heap.ExtBut it h h'->(∃o,h'.get? e=some o/\o.cls=.type "StopIteration")->E (.ref e) (mk h' tk)) ->
  wpAny (model prog w) A (Builtin.SmallTypes.nextOf (.ref it)) Q E (mk h tk)
def HF(s:Oa)(h:OC)(tk:Nat):Oa:={s with heap:=h,toks:=tk}
variable{Good:OC->Nat->Prop}{s:Oa}{z TI TO i1 i2:N9}{a b:N8}{st1 st1' st2 st2':OC->Prop}{P1 P2:N8->Prop}
theorem fV{it l:N9}{i:Nat}{items}{x:N8}{Q:N8->Oa->Prop}(hit:s.heap.IsTupleIter it l i)(hl:s.heap.IsTuple l items)(hx:items[i]?=some x)
  (hQ:∀h',h'.IsTupleIter it l (i+1)->Heap.SameBut it s.heap h'->Q x {s with heap:=h' }):wpAny (model prog w) A (Builtin.SmallTypes.nextOf (.ref it)) Q E s:=by
 obtain⟨o,ho,hc,hd⟩:=id hit
 obtain⟨ol,hol,_,nl,hdl⟩:=hl
 unfold Builtin.SmallTypes.nextOf
 refine Ob (wpAny_callSpecial?_slot (name:=oS "__next__") hit.typeIs F.slot_tuple_iterator_next (wpAny_call_entry F.slot_tuple_iterator_next hit.typeIs F.entry_tuple_iterator_next ?_ (F.args_tuple_iterator_next_1 _)))
 show wpAny _ _ (field (.ref it) 0 >>= _) _ _ s;refine Ob (wpAny_field ho hd (x:=.ref l) rfl ?_)
 show wpAny _ _ (if (Value.ref l==Value.none)=true then _ else _) _ _ s;rw[Ov (show ¬ ((Value.ref l==Value.none)=true) from Oi)]
 show wpAny _ _ (field (.ref it) 1 >>= _) _ _ s;refine Ob (wpAny_field ho hd (x:=.int i 0) rfl ?_)
 show wpAny _ _ (seqItems? (.ref l) >>= _) _ _ s;refine Ob (wpAny_seqItems hol hdl ?_)
 simp only[Int.toNat_natCast,hx]
 refine Ob (wpAny_setField ho hd (by simp) (Ou ⟨x,rfl,Ou (hQ _ ⟨_,Pm _ ho (Obj.isFreed_of_fields (Obj.data_mapFields hd _)),(Obj.cls_mapFields ..).trans hc,?_⟩ (Heap.SameBut.update ..))⟩))
 rw[Obj.data_mapFields hd];simp[rawInt]
theorem gt{it l:N9}{i:Nat}{items}{Q:N8->Oa->Prop}(hh:A.handled=none)(hit:s.heap.IsTupleIter it l i)(hl:s.heap.IsTuple l items)(hx:items[i]?=none)
  (hE:∀h' e,Heap.ExtBut it s.heap h'->(∃o,h'.get? e=some o/\o.cls=.type "StopIteration")->E (.ref e) {s with heap:=h' }):wpAny (model prog w) A (Builtin.SmallTypes.nextOf (.ref it)) Q E s:=by
 obtain⟨o,ho,hc,hd⟩:=id hit
 obtain⟨ol,hol,_,nl,hdl⟩:=hl
 unfold Builtin.SmallTypes.nextOf
 refine Ob (wpAny_callSpecial?_slot (name:=oS "__next__") hit.typeIs F.slot_tuple_iterator_next (wpAny_call_entry F.slot_tuple_iterator_next hit.typeIs F.entry_tuple_iterator_next ?_ (F.args_tuple_iterator_next_1 _)))
 show wpAny _ _ (field (.ref it) 0 >>= _) _ _ s;refine Ob (wpAny_field ho hd (x:=.ref l) rfl ?_)
 show wpAny _ _ (if (Value.ref l==Value.none)=true then _ else _) _ _ s;rw[Ov (show ¬ ((Value.ref l==Value.none)=true) from Oi)]
 show wpAny _ _ (field (.ref it) 1 >>= _) _ _ s;refine Ob (wpAny_field ho hd (x:=.int i 0) rfl ?_)
 show wpAny _ _ (seqItems? (.ref l) >>= _) _ _ s;refine Ob (wpAny_seqItems hol hdl ?_)
 simp only[Int.toNat_natCast,hx]
 refine Ob (wpAny_rule (Ob (wpAny_setField ho hd (by simp) ?_)));show wpAny _ _ (newExc (.type "StopIteration") [] >>= _) _ _ _
 refine Ob ?_;simp only[newExc,newTuple]
 refine Ob (Pd ?_ (by size_fits));refine Ob (m:=firstArgMember _ _) (wpAny_of_eq (a:=Value.none) (by first | rfl | (simp only[firstArgMember];rfl)) ?_)
 refine Pd ?_ (by size_fits);simp only[raiseNew]
 refine Ob (wpAny_handled ?_);first | rw[show A.in1.handled=none from hh] | rw[hh]
 exact Ob (Ou (wpAny_throw (hE _ _ (((Heap.SameBut.update ..).extBut.push _).push _) ⟨_,Ox _ rfl,rfl⟩)))
inductive Src where
 | lst (a:N9)
 | tup (a:N9)
 | txt (x:Str) (t:Tok)
def Src.val:Src->N8
 | .lst a=>.ref a
 | .tup a=>.ref a
 | .txt x t=>.str x t
noncomputable def Src.obj:Src->Obj
 | .lst a=>{cls:=.type "list_iterator",data:=.fields #[.ref a,.int 0 0]}
 | .tup a=>{cls:=.type "tuple_iterator",data:=.fields #[.ref a,.int 0 0]}
 | .txt x t=>{cls:=.type "str_ascii_iterator",data:=.fields #[.str x t,.int 0 0]}
def Src.ok(h:OC):Src->Prop
 | .lst a=>∃xs,h.IsList a xs
 | .tup a=>∃xs,h.IsTuple a xs
 | .txt x _=>x.cps.all (·<128)=true
def Src.at(it:N9)(i:Nat)(h:OC):Src->Prop
 | .lst a=>h.IsListIter it a i
 | .tup a=>h.IsTupleIter it a i
 | .txt x t=>h.IsStrIter it "str_ascii_iterator" x t i
theorem Src.iter{S:Src}{Q:N8->Oa->Prop}(h:S.ok s.heap)(hQ:Q (.ref s.heap.objs.size) {s with heap:=s.heap.push S.obj}):wpAny (model prog w) A (pyIter S.val) Q E s:=by
 cases S with
 | lst a=>obtain⟨xs,h⟩:=h;exact wpAny_pyIter_list h hQ
 | tup a=>obtain⟨xs,h⟩:=h;exact wpAny_pyIter_tuple h hQ
 | txt x t=>exact wpAny_pyIter_ascii h hQ
theorem Src.keep{S:Src}{it:N9}{i:Nat}{h h':OC}(q:S.at it i h)(k:∀o,h.get? it=some o->h'.get? it=some o):S.at it i h':=by
 cases S with
 | lst a=>exact Heap.IsListIter.at q k
 | tup a=>obtain⟨o,e,r⟩:=q;exact⟨o,k o e,r⟩
 | txt x t=>obtain⟨o,e,r⟩:=q;exact⟨o,k o e,r⟩
theorem Src.start{S:Src}{it:N9}{h:OC}(q:h.get? it=some S.obj):S.at it 0 h:=by
 cases S<;>exact⟨_,q,rfl,rfl⟩
theorem Src.nx {S:Src} {it:N9} {i:Nat} {P:N8->Prop} (hx:∀h tk,Good h tk->match S with
  | .lst a=>∃xs x,h.IsList a xs/\xs[i]?=some x/\P x
  | .tup a=>∃xs x,h.IsTuple a xs/\xs[i]?=some x/\P x
  | .txt x _=>∃c,x.cps[i]?=some c/\∀u,P (.str ⟨#[c]⟩ u)):Nx prog w A (HF s) Good it (fun h=>S.at it i h) (fun h=>S.at it (i+1) h) P where
 stay:=fun _ _ q k=>Src.keep q k
 stay':=fun _ _ q k=>Src.keep q k
 run:=fun h tk Q E gg q hQ=>by
  have z:=hx h tk gg
  cases S with
  | lst a=>obtain⟨xs,x,l,e,p⟩:=z;exact wpAny_nextOf_list_item (s:=HF s h tk) q l e fun h' q' sb=>hQ x h' tk p q' sb
  | tup a=>obtain⟨xs,x,l,e,p⟩:=z;exact fV (s:=HF s h tk) q l e fun h' q' sb=>hQ x h' tk p q' sb
  | txt x t=>obtain⟨c,e,p⟩:=z;exact wpAny_nextOf_ascii_item (s:=HF s h tk) q e fun h' q' sb=>hQ _ h' (tk+1) (p _) q' sb
theorem Src.ne {S:Src} {it:N9} {i:Nat} (hh:A.handled=none) (hx:∀h tk,Good h tk->match S with
  | .lst a=>∃xs,h.IsList a xs/\xs[i]?=none
  | .tup a=>∃xs,h.IsTuple a xs/\xs[i]?=none
  | .txt x _=>x.cps[i]?=none):Ne prog w A (HF s) Good it (fun h=>S.at it i h) where
 stay:=fun _ _ q k=>Src.keep q k
 run:=fun h tk Q E gg q hQ=>by
  have z:=hx h tk gg
  cases S with
  | lst a=>obtain⟨xs,l,e⟩:=z;exact wpAny_nextOf_list_end (s:=HF s h tk) hh q l e hQ
  | tup a=>obtain⟨xs,l,e⟩:=z;exact gt (s:=HF s h tk) hh q l e hQ
  | txt x t=>exact wpAny_nextOf_ascii_end (s:=HF s h tk) hh q z hQ
end
section
variable{prog:Oh}{w:Ot}{A:OJ}{E:N8->Oa->Prop}{s:Oa}
end
end HW
namespace HW
open PySem PySem.Spec PyProof.Rows L2
def Src.go(K:N_)(i:Nat)(H:Hp)(v:V):Src->Prop
 | .lst a=>∃xs,uJ K H a xs/\xs[i]?=some v
 | .tup a=>∃xs,vg K H a xs/\xs[i]?=some v
 | .txt x _=>∃c,x.cps[i]?=some c/\v=.str ⟨#[c]⟩
def Src.stop(K:N_)(i:Nat)(H:Hp):Src->Prop
 | .lst a=>∃xs,uJ K H a xs/\xs.length<=i
 | .tup a=>∃xs,vg K H a xs/\xs.length<=i
 | .txt x _=>x.cps.size<=i
section
variable{X:Cx}{pins:List (N9×Obj)}{σ:L2.St}{H:Hp}{s:Oa}{S:Src}{i:Nat}{v:V}
end
section
variable{X:Cx}
end
end HW
namespace HW
open PySem
def Jk:List (Str×D)->Str->OD
 | [],_=>none
 | p::r,x=>if p.1=x then some p.2 else Jk r x
end HW
namespace L2
open PySem PySem.Spec PyProof.Rows
section
variable{κ:Type}[DecidableEq κ]
def wD(kvs:List (κ×V))(k:κ):N7 V:=(kvs.find? fun kv=>decide (kv.1=k)).map (·.2)
def putK(kvs:List (κ×V))(k:κ)(v:V):List (κ×V):=
 if (kvs.any fun kv=>decide (kv.1=k))=true then kvs.map (fun kv=>if kv.1=k then (kv.1,v) else kv) else kvs++[(k,v)]
def HL(kvs:List (κ×V))(k:κ):List (κ×V):=kvs.filter fun kv=>decide (kv.1≠k)
theorem xp{p:κ×V}{r:List (κ×V)}{k:κ}(e:p.1=k):wD (p::r) k=some p.2:=by simp[wD,List.find?_cons,e]
theorem xm{p:κ×V}{r:List (κ×V)}{k:κ}(e:¬ p.1=k):wD (p::r) k=wD r k:=by simp[wD,List.find?_cons,e]
theorem Bo(k:κ):∀kvs:List (κ×V),(kvs.any fun kv=>decide (kv.1=k))=(wD kvs k).isSome
 | []=>rfl
 | p::r=>by
  rw[List.any_cons]
  by_cases e:p.1=k
  ·simp only[xp e,Pa e,Bool.true_or,Option.isSome_some]
  ·rw[xm e,OO e,Bool.false_or];exact Bo k r
theorem wA.isSome_eq{o:N7 V}{u:N7 N8}(r:wA o u):o.isSome=u.isSome:=by
 cases o with
 | none=>cases u with
  | none=>rfl
  | some _=>exact(show False from r).elim
 | some _=>cases u with
  | none=>exact(show False from r).elim
  | some _=>rfl
theorem wA.getD{o:N7 V}{u:N7 N8}{d:V}{d':N8}(r:wA o u)(rd:RelV d d'):RelV (o.getD d) (u.getD d'):=by
 cases o with
 | none=>cases u with
  | none=>exact rd
  | some _=>exact(show False from r).elim
 | some _=>cases u with
  | none=>exact(show False from r).elim
  | some _=>exact r
theorem KV.val{kvs:List (κ×V)}{vs:List (κ×N8)}(r:KV kvs vs)(k:κ):wA (wD kvs k) (valueAt vs k):=by
 unfold KV at r
 induction r with
 | nil=>exact True.intro
 | @cons p q ps qs h t ih =>
  obtain⟨h1,h2⟩:=h
  by_cases e:p.1=k
  ·have e':q.1=k:=h1.symm.trans e
   have b:valueAt (q::qs) k=some q.2:=by simp[valueAt,List.find?_cons,e']
   rw[xp e,b];exact h2
  ·have e':¬ q.1=k:=fun z=>e (h1.trans z)
   have b:valueAt (q::qs) k=valueAt qs k:=by simp[valueAt,List.find?_cons,e']
   rw[xm e,b];exact ih
theorem KV.any{kvs:List (κ×V)}{vs:List (κ×N8)}(r:KV kvs vs)(k:κ):(kvs.any fun kv=>decide (kv.1=k))=vs.any fun kv=>decide (kv.1=k):=by
 unfold KV at r
 induction r with
 | nil=>rfl
 | cons h t ih=>rw[List.any_cons,List.any_cons,ih,h.1]
theorem KV.repl{kvs:List (κ×V)}{vs:List (κ×N8)}(r:KV kvs vs)(k:κ){y:V}{u:N8}(ry:RelV y u) :
  KV (kvs.map fun kv=>if kv.1=k then (kv.1,y) else kv) (vs.map fun kv=>if kv.1=k then (kv.1,u) else kv):=by
 unfold KV at r ⊢
 induction r with
 | nil=>exact .nil
 | @cons p q ps qs h t ih =>
  rw[Pb,Pb]
  refine .cons ?_ ih
  obtain⟨h1,h2⟩:=h
  by_cases e:p.1=k
  ·rw[Of e,Of (h1.symm.trans e)];exact⟨h1,ry⟩
  ·rw[Ov e,Ov (fun z=>e (h1.trans z))];exact⟨h1,h2⟩
theorem KV.put{kvs:List (κ×V)}{vs:List (κ×N8)}(r:KV kvs vs)(k:κ){y:V}{u:N8}(ry:RelV y u):KV (putK kvs k y) (stored vs k u):=by
 unfold putK stored
 rw[r.any k]
 by_cases e:(vs.any fun kv=>decide (kv.1=k))=true
 ·rw[Of e,Of e];exact r.repl k ry
 ·rw[Ov e,Ov e];exact Paired.snoc r ⟨rfl,ry⟩
theorem KV.drop{kvs:List (κ×V)}{vs:List (κ×N8)}(r:KV kvs vs)(k:κ):KV (HL kvs k) (without vs k):=by
 unfold KV at r ⊢
 unfold HL without
 induction r with
 | nil=>exact .nil
 | @cons p q ps qs h t ih =>
  obtain⟨h1,h2⟩:=h
  rw[List.filter_cons,List.filter_cons]
  by_cases e:p.1=k
  ·have a:¬ decide (p.1≠k)=true:=by simp[e]
   have b:¬ decide (q.1≠k)=true:=by simp[h1.symm.trans e]
   rw[Ov a,Ov b];exact ih
  ·have e':¬ q.1=k:=fun z=>e (h1.trans z)
   have a:decide (p.1≠k)=true:=by simp[e]
   have b:decide (q.1≠k)=true:=by simp[e']
   rw[Of a,Of b];exact .cons ⟨h1,h2⟩ ih
theorem KV.keys{kvs:List (κ×V)}{vs:List (κ×N8)}(r:KV kvs vs):kvs.map (·.1)=vs.map (·.1):=by
 unfold KV at r
 induction r with
 | nil=>rfl
 | cons h t ih=>rw[Pb,Pb,ih,h.1]
theorem KV.length{kvs:List (κ×V)}{vs:List (κ×N8)}(r:KV kvs vs):kvs.length=vs.length:=Paired.length r
end
abbrev KT(H:Hp):List (List Key×V)->List (List Key×N9×N8)->Prop:=Paired fun p q=>p.1=q.1/\H q.2.1=some (.tup (p.1.map kV))/\RelV p.2 q.2.2
theorem KT.val{H:Hp}{kvs:List (List Key×V)}{xs:List (List Key×N9×N8)}(r:KT H kvs xs)(k:List Key):wA (wD kvs k) ((atKey xs k).map (·.2)):=by
 induction r with
 | nil=>exact True.intro
 | @cons p q ps qs h t ih =>
  obtain⟨h1,_,h2⟩:=h
  by_cases e:p.1=k
  ·have e':q.1=k:=h1.symm.trans e
   have b:atKey (q::qs) k=some q.2:=by simp[atKey,List.find?_cons,e']
   rw[xp e,b];exact h2
  ·have e':¬ q.1=k:=fun z=>e (h1.trans z)
   have b:atKey (q::qs) k=atKey qs k:=by simp[atKey,List.find?_cons,e']
   rw[xm e,b];exact ih
theorem KT.repl{H:Hp}{kvs:List (List Key×V)}{xs:List (List Key×N9×N8)}(r:KT H kvs xs)(k:List Key){y:V}{u:N8}(ry:RelV y u) :
  KT H (kvs.map fun kv=>if kv.1=k then (kv.1,y) else kv) (xs.map (putAt k u)):=by
 induction r with
 | nil=>exact .nil
 | @cons p q ps qs h t ih =>
  rw[Pb,Pb]
  refine .cons ?_ ih
  obtain⟨h1,h2,h3⟩:=h
  unfold putAt
  by_cases e:p.1=k
  ·rw[Of e,Of (h1.symm.trans e)];exact⟨h1,h2,ry⟩
  ·rw[Ov e,Ov (fun z=>e (h1.trans z))];exact⟨h1,h2,h3⟩
theorem KT.put{H:Hp}{kvs:List (List Key×V)}{xs:List (List Key×N9×N8)}(r:KT H kvs xs)(k:List Key){b:N9}{y:V}{u:N8}(hb:H b=some (.tup (k.map kV)))(ry:RelV y u) :
  KT H (putK kvs k y) (storedH xs k b u):=by
 have e:(kvs.any fun kv=>decide (kv.1=k))=(atKey xs k).isSome:=by
  rw[Bo,(r.val k).isSome_eq,Option.isSome_map]
 unfold putK storedH
 rw[e]
 by_cases q:(atKey xs k).isSome=true
 ·rw[Of q,Of q];exact r.repl k ry
 ·rw[Ov q,Ov q];exact Paired.snoc r ⟨rfl,hb,ry⟩
theorem KT.keeps{H H':Hp}{kvs:List (List Key×V)}{xs:List (List Key×N9×N8)}(r:KT H kvs xs)(ht:∀b ys,H b=some (.tup ys)->H' b=some (.tup ys)):KT H' kvs xs:=
 Paired.mapP r fun _ _ z=>⟨z.1,ht _ _ z.2.1,z.2.2⟩
section
variable{P:Oh}{w:Ot}{H:Hp}{h:OC}{a:N9}
end
def Hi(H:Hp)(a:N9)(y:V)(r:N7 V):Prop:=
 (∃kvs k,Rd H a (.dK kvs)/\y=kV k/\r=wD kvs k)\/∃kvs k b,Rd H a (.dT kvs)/\y=.ref b/\H b=some (.tup (k.map kV))/\r=wD kvs k
def Gu(H:Hp)(a:N9)(y v:V)(H':Hp):Prop:=
 (∃kvs k,H a=some (.dK kvs)/\y=kV k/\kvs.length<sizeLine/\H'=upd H a (.dK (putK kvs k v))) \/
 ∃kvs k b,H a=some (.dT kvs)/\y=.ref b/\H b=some (.tup (k.map kV))/\kvs.length<sizeLine/\H'=upd H a (.dT (putK kvs k v))
theorem Hi.k{H:Hp}{a:N9}{kvs:List (Key×V)}{k:Key}(e:H a=some (.dK kvs)):Hi H a (kV k) (wD kvs k):=.inl ⟨kvs,k,.inl e,rfl,rfl⟩
theorem Hi.t{H:Hp}{a b:N9}{kvs:List (List Key×V)}{k:List Key}(e:H a=some (.dT kvs))(eb:H b=some (.tup (k.map kV))):Hi H a (.ref b) (wD kvs k):=.inr ⟨kvs,k,b,.inl e,rfl,eb,rfl⟩
theorem Gu.k{H:Hp}{a:N9}{kvs:List (Key×V)}{k:Key}{v:V}(e:H a=some (.dK kvs))(hl:kvs.length<sizeLine):Gu H a (kV k) v (upd H a (.dK (putK kvs k v))):=.inl ⟨kvs,k,e,rfl,hl,rfl⟩
theorem Gu.t{H:Hp}{a b:N9}{kvs:List (List Key×V)}{k:List Key}{v:V}(e:H a=some (.dT kvs))(eb:H b=some (.tup (k.map kV)))(hl:kvs.length<sizeLine) :
  Gu H a (.ref b) v (upd H a (.dT (putK kvs k v))):=.inr ⟨kvs,k,b,e,rfl,eb,hl,rfl⟩
section
variable{X:Cx}{pins:List (N9×Obj)}{σ:St}{H:Hp}{s:Oa}{a:N9}{y v:V}{u r:N8}{o:N7 V}{A:OJ}{E:N8->Oa->Prop}
end
section
variable{X:Cx}{pins:List (N9×Obj)}{σ:St}{H:Hp}{s:Oa}{a:N9}{kvs:List (Key×V)}{k:Key}{u:N8}{A:OJ}{E:N8->Oa->Prop}
end
section
variable{X:Cx}{o i e value:OG}{pos pos' tpos:Pos}{td ty tv:TE}
end
section
variable{X:Cx}{pos:Pos}
end
section
variable{X:Cx}{pins:List (N9×Obj)}{σ:St}{H:Hp}{s:Oa}{a:N9}{y d:V}{u r:N8}{o:N7 V}{A:OJ}{E:N8->Oa->Prop}
end
section
variable{X:Cx}{o e f:OG}{apos cpos:Pos}{td ty tx:TE}
end
section
variable{X:Cx}{pins:List (N9×Obj)}{σ:St}{H:Hp}{s:Oa}{a:N9}{kvs:List (Key×V)}{A:OJ}{E:N8->Oa->Prop}
end
section
variable{X:Cx}{pins:List (N9×Obj)}{σ:St}{H:Hp}{s:Oa}{a:N9}{y:V}{u:N8}{A:OJ}{E:N8->Oa->Prop}
end
end L2
namespace HW
open PySem PySem.Spec PyProof.Rows L2
def L5(P:Oh)(w:Ot)(a:N9)(kvs:List (Key×V)):HO:=.ext fun h=>kvs.length<=sizeLine/\(a==sysModules)=false/\∃vs,KV kvs vs/\h.DictOf (yw P w) a vs
section
variable{X:Cx}{pins:List (N9×Obj)}{σ:L2.St}{H:Hp}{s:Oa}{a:N9}{kvs:List (Key×V)}
end
def vm(K:N_)(H:Hp):List (Str×D)->List (Key×V)->Prop
 | [],vs=>vs=[]
 | p::r,vs=>∃v t,vs=(.inr p.1,v)::t/\Rep K H p.2 v/\vm K H r t
section
variable{K:N_}{H H':Hp}
theorem vm.kp(s:Kp H H'):∀{ds:List (Str×D)} {vs:List (Key×V)},vm K H ds vs->vm K H' ds vs
 | [],_,h=>h
 | p::r,_,h=>by
  obtain⟨v,t,e,q,w⟩:=h
  exact⟨v,t,e,q.kp s,vm.kp s w⟩
theorem vm.mono(s:i9 H H'){ds:List (Str×D)}{vs:List (Key×V)}(h:vm K H ds vs):vm K H' ds vs:=h.kp (Kp.of s)
theorem vm.snoc:∀{ds:List (Str×D)} {vs:List (Key×V)} {x:Str} {d:D} {v:V},vm K H ds vs->Rep K H d v->vm K H (ds++[(x,d)]) (vs++[(.inr x,v)])
 | [],_,x,d,v,h,r=>by
  cases (show _=[] from h)
  exact⟨v,[],rfl,r,rfl⟩
 | p::ds,_,x,d,v,h,r=>by
  obtain⟨u,t,e,q,w⟩:=h
  subst e
  exact⟨u,t++[(.inr x,v)],rfl,q,vm.snoc w r⟩
theorem vm.len:∀{ds:List (Str×D)} {vs:List (Key×V)},vm K H ds vs->ds.length=vs.length
 | [],_,h=>by cases (show _=[] from h);rfl
 | p::r,_,h=>by
  obtain⟨v,t,e,q,w⟩:=h
  subst e
  simp[vm.len w]
theorem vm.at:∀{ds:List (Str×D)} {vs:List (Key×V)} {x:Str},vm K H ds vs->match Jk ds x with
  | some d=>∃v,wD vs (Sum.inr x:Key)=some v/\Rep K H d v
  | none=>wD vs (Sum.inr x:Key)=none
 | [],_,x,h=>by cases (show _=[] from h);rfl
 | p::r,_,x,h=>by
  obtain⟨v,t,e,q,w⟩:=h
  subst e
  have ih:=vm.at (x:=x) w
  unfold Jk
  by_cases hx:p.1=x
  ·rw[Of hx]
   exact⟨v,xp (by rw[hx]),q⟩
  ·rw[Ov hx]
   have n:wD (((Sum.inr p.1:Key),v)::t) (Sum.inr x)=wD t (Sum.inr x):=xm fun z=>hx (Sum.inr.inj z)
   rw[n]
   exact ih
end
def NC(P:Oh)(w:Ot)(K:N_)(g:R->List (Str×D)->OD):TE:=fun σ H Q=>∃ ρ τ a ds xs d,sd K H ρ (some (.ref a)::τ) σ/\H a=some (L5 P w a xs)/\vm K H ds xs/\g ρ ds=some d/\∀v H',i9 H H'->Rep K H' d v->Q v H'
def KE(X:Cx)(e:OG)(g:R->List (Str×D)->OD):Prop:=PE X e (NC X.prog X.w X.K g)
section
variable{X:Cx}{st:OE}{sts:List OE}{u:R->N7 Out}{w:R->List (Str×D)->N7 Out}{pos:Pos}{e:OG}{es:List OG}{f:R->OD}{F:R->N7 LD}
end
def Kd(H H':Hp):Prop:=∀b u,H b=some u->(∀kvs,u≠.dK kvs)->H' b=some u
mutual
theorem Rep.kd{K:N_}{H H':Hp}(s:Kd H H'):∀{d:D} {v:V},sk d=true->Rep K H d v->Rep K H' d v
 | .non,_,hn,h=>h
 | .bl _,_,hn,h=>h
 | .int _,_,hn,h=>h
 | .str _,_,hn,h=>h
 | .tup ds,_,hn,h=>by
  obtain⟨a,xs,e,q,r⟩:=h
  refine⟨a,xs,e,?_,i8.kd s hn r⟩
  rcases q with (h | ⟨o,h⟩) | h
  ·exact .inl (.inl (s _ _ h fun φ z=>nomatch z))
  ·exact .inl (.inr ⟨o,s _ _ h fun φ z=>nomatch z⟩)
  ·exact .inr h
 | .lst ds,_,hn,h=>by
  obtain⟨a,xs,e,q,r⟩:=h
  exact⟨a,xs,e,s _ _ q (fun φ z=>by cases z),i8.kd s hn r⟩
 | .fro ds,_,hn,h=>by
  obtain⟨a,xs,e,q,r⟩:=h
  refine⟨a,xs,e,?_,i8.kd s hn r⟩
  rcases q with (h | ⟨o,h⟩) | h
  ·exact .inl (.inl (s _ _ h fun φ z=>nomatch z))
  ·exact .inl (.inr ⟨o,s _ _ h fun φ z=>nomatch z⟩)
  ·exact .inr h
 | .obj k a ks ds,_,hn,h=>by cases hn
 | .rf ..,_,hn,h=>by cases hn
theorem i8.kd{K:N_}{H H':Hp}(s:Kd H H'):∀{ds:LD} {vs:List V},n6 ds=true->i8 K H ds vs->i8 K H' ds vs
 | [],_,_,h=>h
 | d::ds,_,hn,h=>by
  have hn':(sk d&&n6 ds)=true:=hn
  rw[Oe] at hn'
  obtain⟨v,r,e,q,t⟩:=h
  exact⟨v,r,e,Rep.kd s hn'.1 q,i8.kd s hn'.2 t⟩
end
section
variable{X:Cx}{sts:List OE}{w:R->List (Str×D)->N7 Out}{pos:Pos}{f:R->OD}
end
end HW
namespace HW
open PySem
end HW
namespace HW
open PySem PySem.Spec PyProof.Rows L2
variable{X:Cx}
end HW
namespace HW
open PySem PySem.SetTable
theorem FQ(xs:Array Nat)(j:Nat)(H:∀a b,a<b->b<xs.size->xs.getD a 0<xs.getD b 0):∀fuel lo hi,hi - lo<=fuel->lo<=hi->hi<=xs.size ->
  (∀i,i<lo->xs.getD i 0<j)->(∀i,hi<=i->i<xs.size->j<=xs.getD i 0) ->
  below.go xs j fuel lo hi<=xs.size/\(∀i,i<below.go xs j fuel lo hi->xs.getD i 0<j)/\(∀i,below.go xs j fuel lo hi<=i->i<xs.size->j<=xs.getD i 0):=by
 intro fuel
 induction fuel with
 | zero =>
  intro lo hi h1 h2 h3 h4 h5
  have:lo=hi:=by omega
  subst this
  exact⟨h3,h4,h5⟩
 | succ fuel ih =>
  intro lo hi h1 h2 h3 h4 h5
  unfold below.go
  by_cases hlt:lo<hi
  ·rw[Of hlt]
   have hm:(lo+hi) / 2<xs.size:=by omega
   have e:xs.getD ((lo+hi) / 2) j=xs.getD ((lo+hi) / 2) 0:=by simp[Array.getD,hm]
   show(if xs.getD ((lo+hi) / 2) j<j then _ else _:Nat)<=_/\_
   dsimp only
   rw[e]
   by_cases hc:xs.getD ((lo+hi) / 2) 0<j
   ·rw[Of hc]
    refine ih _ _ (by omega) (by omega) h3 (fun i hi'=>?_) h5
    by_cases he:i=(lo+hi) / 2
    ·subst he;exact hc
    ·exact Nat.lt_trans (H i _ (by omega) hm) hc
   ·rw[Ov hc]
    refine ih _ _ (by omega) (by omega) (by omega) h4 (fun i hi' hs=>?_)
    by_cases he:i=(lo+hi) / 2
    ·subst he;omega
    ·have:=H _ i (by omega:(lo+hi) / 2<i) hs;omega
  ·rw[Ov hlt]
   have:lo=hi:=by omega
   subst this
   exact⟨h3,h4,h5⟩
def LO(xs:Array Nat):Prop:=∀a b,a<b->b<xs.size->xs.getD a 0<xs.getD b 0
theorem yT{xs:Array Nat}(H:LO xs)(j:Nat):below xs j<=xs.size/\(∀i,i<below xs j->xs.getD i 0<j)/\(∀i,below xs j<=i->i<xs.size->j<=xs.getD i 0):=
 FQ xs j H xs.size 0 xs.size (by omega) (by omega) (by omega) (fun i h=>by omega) (fun i h h'=>by omega)
theorem Gz{xs:Array Nat}(H:LO xs):below xs 0=0:=by
 obtain⟨a,b,c⟩:=yT H 0
 rcases Nat.eq_zero_or_pos (below xs 0) with h | h
 ·exact h
 ·have:=b 0 h;omega
theorem GA{xs:Array Nat}(H:LO xs){i:Nat}(hi:i<xs.size):below xs (xs.getD i 0+1)=i+1:=by
 obtain⟨a,b,c⟩:=yT H (xs.getD i 0+1)
 generalize below xs (xs.getD i 0+1)=r at *
 rcases Nat.lt_or_ge i r with h | h
 ·rcases Nat.lt_or_ge (i+1) r with h' | h'
  ·have h1:=b (i+1) h'
   have h2:=H i (i+1) (by omega) (by omega)
   omega
  ·omega
 ·have:=c i h hi;omega
structure TI (t:SetTable) (n:Nat):Prop where
 mask:t.mask=7
 dum:t.dummies=#[]
 plain:t.plain=true
 ris:LO t.place
 size:t.place.size=n
theorem TI.fits{t:SetTable}{n:Nat}(T:TI t n)(hn:n<=7):t.fits n=true:=by
 unfold SetTable.fits SetTable.fill
 rw[T.mask,T.dum,T.size]
 simp;omega
theorem TI.fresh(led:Bool):TI (.fresh 0 0 led) 0:=⟨rfl,rfl,rfl,fun a b h hb=>OA hb (by simp[SetTable.fresh]),rfl⟩
theorem y6{α:Type}:∀(l:List α) (i:Nat) (x:α),l[i]?=some x->(x::l.eraseIdx i).Perm l
 | [],i,x,h=>by simp at h
 | a::l,0,x,h=>by simp at h;subst h;exact .refl _
 | a::l,i+1,x,h=>by
  simp only[List.getElem?_cons_succ] at h
  simp only[List.eraseIdx_cons_succ]
  exact(List.Perm.swap _ _ _).trans ((y6 l i x h).cons a)
theorem Dc{α:Type}(next:Nat->Nat):∀(fuel k:Nat) (left:List α) (out:Array α),left.length=fuel->(pickOrder.go next fuel k left out).toList.Perm (out.toList++left)
 | 0,k,left,out,h=>by
  have:left=[]:=List.eq_nil_of_length_eq_zero h
  subst this;rw[OQ];exact .refl _
 | fuel+1,k,left,out,h=>by
  unfold pickOrder.go
  have hlt:next k%left.length<left.length:=Nat.mod_lt _ (by omega)
  rw[List.getElem?_eq_getElem hlt]
  dsimp only
  refine(Dc next fuel (k+1) _ _ (by rw[List.length_eraseIdx_of_lt hlt];omega)).trans ?_
  rw[Array.toList_push,List.append_assoc]
  exact(y6 left _ _ (List.getElem?_eq_getElem hlt)).append_left _
theorem zM{α:Type}(next:Nat->Nat)(xs:Array α):(pickOrder next xs).toList.Perm xs.toList:=by
 unfold pickOrder
 exact Dc next xs.size 0 xs.toList #[] (by simp)
theorem DT{α:Type}(next:Nat->Nat)(xs:Array α):(pickOrder next xs).size=xs.size:=by
 rw[<- Pf,(zM next xs).length_eq,Pf]
end HW
namespace HW
noncomputable def intsOf:LD->N7 (List Int)
 | []=>some []
 | .int i::r=>(intsOf r).map (i::·)
 | _::_=>none
end HW
namespace HW
open PySem
def Ni:N8->Int
 | .int n _=>n
 | _=>0
def CK(b:Bool)(h:OC)(S:N9)(ks:List Int):Prop:=
 ∃o es ep t,h.get? S=some o/\o.ExactSet/\o.data=.set es ep t/\(∀e∈es.toList,∃k tk,e=(hashInt k,Value.int k tk))/\TI t es.size/\t.led=b/\(es.toList.map fun e=>Ni e.2).Perm ks
theorem CK.at{b:Bool}{h h':OC}{S:N9}{ks:List Int}(x:CK b h S ks)(e:∀o,h.get? S=some o->h'.get? S=some o):CK b h' S ks:=let ⟨o,es,ep,t,ho,r⟩:=x;⟨o,es,ep,t,e _ ho,r⟩
section
variable{prog:Oh}{w:Ot}{A:OJ}{E:N8->Oa->Prop}{s:Oa}
end
end HW
namespace HW
open PySem PySem.Spec PyProof.Rows
def xA(h:OC)(it S:N9)(slot i n ep:Nat):Prop:=∃o,h.get? it=some o/\o.cls=.type "set_iterator" /\ o.data=.fields #[.int slot 0,.int i 0,.ref S,.int n 0,.int ep 0]
def yi(h:OC)(S:N9)(es:Array (Int×N8))(ep:Nat)(t:SetTable):Prop:=∃o,h.get? S=some o/\o.cls=.type "set" /\ o.data=.set es ep t
def slotAt(t:SetTable):Nat->Nat
 | 0=>0
 | i+1=>t.place.getD i 0+1
def zK(w:Ot):Bool:=w.params.followText "set-order"
structure Jo (w:Ot) (S:N9) (es:Array (Int×N8)) (ep:Nat) (t:SetTable) (ord:Array (Int×N8)):Prop where
 fits:t.fits es.size=true
 size:ord.size=es.size
 txt:zK w=true->ord=pickOrder (w.params.setOrder S ep) es
 plc:zK w=false->ord=es/\t.led=true/\(!t.plain&&decide (es.size > 1))=false/\∀i,i<=es.size->SetTable.below t.place (slotAt t i)=i
theorem xA.typeIs{s:Oa}{it S slot i n ep}(x:xA s.heap it S slot i n ep):s.TypeIs (.ref it) "set_iterator":=let ⟨o,ho,hc,_⟩:=x;⟨o,ho,hc⟩
theorem yi.typeIs{s:Oa}{S es ep t}(x:yi s.heap S es ep t):s.TypeIs (.ref S) "set":=let ⟨o,ho,hc,_⟩:=x;⟨o,ho,hc⟩
theorem yi.at{h h':OC}{S es ep t}(x:yi h S es ep t)(e:∀o,h.get? S=some o->h'.get? S=some o):yi h' S es ep t:=let ⟨o,ho,r⟩:=x;⟨o,e _ ho,r⟩
theorem xA.at{h h':OC}{it S slot i n ep}(x:xA h it S slot i n ep)(e:∀o,h.get? it=some o->h'.get? it=some o):xA h' it S slot i n ep:=let ⟨o,ho,r⟩:=x;⟨o,e _ ho,r⟩
theorem yi.lt{h:OC}{S es ep t}(x:yi h S es ep t):S<h.objs.size:=let ⟨_,ho,_⟩:=x;Om ho
section
variable{prog:Oh}{w:Ot}{A:OJ}{E:N8->Oa->Prop}{s:Oa}{S:N9}{es ord:Array (Int×N8)}{ep:Nat}{t:SetTable}
def nextOf(ord:Array (Int×N8))(i nx:Nat):N7 (N8×Nat):=(ord[i]?).map fun e=>(e.2,nx)
end
set_option maxHeartbeats 3200000
section
variable{prog:Oh}{w:Ot}{A:OJ}{R:Result->Oa->Prop}{I:N9}{fp wr:List N9}{G:Array GenState->Array GenState->Prop}{n:Nat}{P:Nat->N8->Prop}{St:Nat->Oa->Prop}
end
section
variable{prog:Oh}{w:Ot}{A:OJ}{E:N8->Oa->Prop}{s:Oa}
abbrev FJ(w:Ot):Obj:={cls:=.type "set",dict:=none,data:=.set #[] 0 (.fresh 0 0 (!zK w))}
theorem CK.new{h:OC}{w:Ot}:CK (!zK w) (h.push (FJ w)) h.objs.size []:=
 ⟨FJ w,#[],0,_,Ox _ rfl,⟨rfl,rfl,rfl⟩,rfl,fun e he=>by simp at he,TI.fresh _,rfl,.refl _⟩
theorem CK.ord{h:OC}{S:N9}{ks:List Int}(x:CK (!zK w) h S ks)(hn:ks.length<=4) :
  ∃es ep t ord,yi h S es ep t/\Jo w S es ep t ord/\(ord.toList.map fun e=>Ni e.2).Perm ks/\∀e∈ord.toList,∃k tk,e.2=Value.int k tk:=by
 obtain⟨o,es,ep,t,ho,hex,hd,hel,hT,hled,hp⟩:=x
 have hlen:es.size=ks.length:=by rw[<- hp.length_eq,OK,Pf]
 have hf:t.fits es.size=true:=hT.fits (by omega)
 have hel':∀e∈es.toList,∃k tk,e.2=Value.int k tk:=fun e he=>let ⟨k,tk,q⟩:=hel e he;⟨k,tk,by rw[q]⟩
 cases hb:zK w with
 | true =>
  have pp:=zM (w.params.setOrder S ep) es
  exact⟨es,ep,t,pickOrder (w.params.setOrder S ep) es,⟨o,ho,hex.1,hd⟩,⟨hf,DT _ _,fun _=>rfl,fun z=>by rw[hb] at z;cases z⟩,(pp.map _).trans hp,fun e he=>hel' e (pp.mem_iff.mp he)⟩
 | false =>
  refine⟨es,ep,t,es,⟨o,ho,hex.1,hd⟩,⟨hf,rfl,(fun z=>by rw[hb] at z;cases z),fun _=>⟨rfl,by rw[hled,hb];rfl,by rw[hT.plain];rfl,fun i hi=>?_⟩⟩,hp,hel'⟩
  cases i with
  | zero=>exact Gz hT.ris
  | succ i=>exact GA hT.ris (by rw[hT.size];exact hi)
end
end HW
set_option maxHeartbeats 1000000
namespace HW
open PySem PySem.Spec PyProof.Rows L2
section
variable{X:Cx}
theorem vals_ints{K:N_}{H:Hp}:∀{ds:LD} {ns:List Int} {xs:List V} {its:List N8},intsOf ds=some ns->i8 K H ds xs->l4 xs its->IntsAre its ns
 | [],ns,xs,its,e,r,v=>by
  cases e
  cases (show xs=[] from r)
  cases v
  exact .nil
 | .int i::ds,ns,xs,its,e,r,v=>by
  obtain⟨ms,e1,e2⟩:=rW (show(intsOf ds).map (i::·)=some ns from e)
  subst e2
  obtain⟨x,xr,rfl,r1,r2⟩:=r
  cases (show x=_ from r1)
  cases v with
  | cons v1 v2 =>
   obtain⟨t,rfl⟩:=v1
   exact .cons i t (vals_ints e1 r2 v2)
 | .non::_,_,_,_,e,_,_=>by cases e
 | .bl _::_,_,_,_,e,_,_=>by cases e
 | .str _::_,_,_,_,e,_,_=>by cases e
 | .tup _::_,_,_,_,e,_,_=>by cases e
 | .lst _::_,_,_,_,e,_,_=>by cases e
 | .fro _::_,_,_,_,e,_,_=>by cases e
variable{sts:List OE}
end
section
variable{prog:Oh}{w:Ot}{A:OJ}{R':Result->Oa->Prop}{I:N9}{fp wr:List N9}{n:Nat}{P:Nat->N8->Prop}{St:Nat->OC->Prop}
end
section
variable{prog:Oh}{w:Ot}{A:OJ}{E:N8->Oa->Prop}{s:Oa}
end
section
variable{X:Cx}
end
end HW
namespace HW
end HW
namespace HW
open PySem PySem.Spec PyProof.Rows L2
section
variable{prog:Oh}{w:Ot}{A:OJ}{E:N8->Oa->Prop}{s:Oa}
end
section
variable{X:Cx}
end
end HW
namespace HW
end HW
namespace HW
open PySem PySem.Spec PyProof.Rows L2
section
variable{X:Cx}
end
end HW
namespace HW
open PySem
end HW
namespace HW
open PySem PySem.Spec PyProof.Rows L2
section
variable{X:Cx}
end
abbrev tO(K:N_)(n:Str)(st:OE)(f:N9):Prop:=∃(oc:N8) (od an:N7 N9) (sl:Array (N7 N8)) (kV dc pm cd ct:N8),W.nsIn K mainGlobals n=some (some (.ref f)) /\
 K.lookup f=some ⟨oc,od,.func (W.fnOf n n (sR st) (rS st) (e9 st) .none kV dc pm an cd ct),sl⟩/\W.codeIn K cd n=true/\W.keepIn K (.ref f)=true
theorem tZ{K:N_}{n:Str}{st:OE}{f:N9}(h:tO K n st f):∃fd,sr K n n st f fd/\W.nsIn K mainGlobals n=some (some (.ref f)):=by
 obtain⟨oc,od,an,sl,kV,dc,pm,cd,ct,a,l,c,k⟩:=h
 exact⟨_,mt l c k,a⟩
theorem fn4_mk{K:N_}{n:Str}{st:OE}{f:N9}{oc:N8}{od an:N7 N9}{sl:Array (N7 N8)}{kV dc pm cd ct:N8}(a:W.nsIn K mainGlobals n=some (some (.ref f)))
  (l:K.lookup f=some ⟨oc,od,.func (W.fnOf n n (sR st) (rS st) (e9 st) .none kV dc pm an cd ct),sl⟩) (c:W.codeIn K cd n=true) (k:W.keepIn K (.ref f)=true):tO K n st f:=⟨oc,od,an,sl,kV,dc,pm,cd,ct,a,l,c,k⟩
theorem m9.m{P:Oh}{w:Ot}{K:N_}{mg:Str->N7 N8}{base:OC}{j k:Nat}{x:Str}{ps:List Str}{F:LD->OD}(h:m9 P w K mg base j x ps F)(hk:j<=k:=by decide):m9 P w K mg base k x ps F:=h.mono hk
end HW
namespace HW
open PySem
inductive MO where
 | nx (ρ:R)
 | rt (d:D) (ρ:R)
abbrev MU:=List Nat->R->N7 MO
def sH(u:R->N7 Out):MU:=fun _ ρ=>(u ρ).bind fun o=>match o with
 | .nx ρ2=>some (.nx ρ2)
 | .rt d=>some (.rt d ρ)
 | _=>none
def vE:MU:=fun _ ρ=>some (.nx ρ)
def tm(u w:MU):MU:=fun S ρ=>(u S ρ).bind fun o=>match o with
 | .nx ρ2=>w S ρ2
 | o=>some o
def Gh(c:R->N7 Bool)(u w:MU):MU:=fun S ρ=>(c ρ).bind fun b=>if b then u S ρ else w S ρ
noncomputable def D8(st:D->R->N7 R)(u:MU)(S:List Nat):LD->R->N7 MO
 | [],ρ=>some (.nx ρ)
 | d::ds,ρ=>(st d ρ).bind fun ρ1=>(u S ρ1).bind fun o=>match o with
  | .nx ρ2=>D8 st u S ds ρ2
  | o=>some o
def Hj(it:R->N7 LD)(st:D->R->N7 R)(u:MU):MU:=fun S ρ=>(it ρ).bind fun ds=>if n6 ds then D8 st u S ds ρ else none
def uL:OD->Bool
 | some d=>sk d
 | none=>true
def s9(i:Nat)(ρ:R):Bool:=(ρ.set i none).all uL
noncomputable def vM:D->List Nat
 | .obj _ a _ _=>[a]
 | _=>[]
def adr:D->List Nat
 | .obj _ a _ es=>a::es.flatMap vM
 | _=>[]
def ym(S:List Nat)(as:List Nat):Bool:=as.all fun a=>S.contains a
def Dh(c:List Nat->R->N7 (D×R)):MU:=fun S ρ=>(c S ρ).map fun r=>.nx r.2
noncomputable def yV:List Str->LD->Str->OD
 | k::ks,d::ds,x=>if k=x then some d else yV ks ds x
 | _,_,_=>none
def putD:List Str->LD->Str->D->List Str×LD
 | k::ks,d::ds,x,e=>if k=x then (k::ks,e::ds) else (k::(putD ks ds x e).1,d::(putD ks ds x e).2)
 | ks,ds,x,e=>(ks++[x],ds++[e])
def sZ(C:Nat)(x:Str):D->OD
 | .obj k _ ks ds=>if k=C+2 then yV ks ds x else none
 | _=>none
def okN:D->Bool
 | .obj 0 _ _ es=>n6 es
 | d=>sk d
def uT(i C:Nat)(x:Str)(f:R->OD):MU:=fun S ρ=>(f ρ).bind fun d=>match g4 i ρ with
 | some (.obj k a ks ds)=>if k=C+2/\sk d=true/\s9 i ρ=true/\ym S (a::ds.flatMap vM)=true/\ks.length<100/\ds.all okN=true/\(yV ks ds x).all sk=true then some (.nx (ρ.set i (some (.obj k a (putD ks ds x d).1 (putD ks ds x d).2)))) else none
 | _=>none
def G4(i C:Nat)(x:Str)(f:R->OD):MU:=fun S ρ=>(f ρ).bind fun d=>match g4 i ρ with
 | some (.obj k a ks ds)=>match yV ks ds x with
  | some (.obj 0 l ls es)=>if k=C+2/\sk d=true/\s9 i ρ=true/\ym S (a::ds.flatMap vM)=true/\es.length<1000/\n6 es=true/\n6 (putD ks ds x .non).2=true/\S.contains l=true then some (.nx (ρ.set i (some (.obj k a (putD ks ds x (.obj 0 l ls (es++[d]))).1 (putD ks ds x (.obj 0 l ls (es++[d]))).2)))) else none
  | _=>none
 | _=>none
def GV(j:Nat)(ob d:D)(ρ:R):N7 (D×D):=(g4 j ρ).bind fun ob'=>if vk ob'=true/\adr ob'=adr ob then some (d,ob') else none
def yq(n N j:Nat)(g:MU):LD->N7 (D×D):=fun ds=>if ds.length=n then (ds[j]?).bind fun ob=>if vk ob=true then (g (adr ob) (yo N ds)).bind fun o=>match o with
 | .nx ρ=>GV j ob .non ρ
 | .rt d ρ=>GV j ob d ρ
 else none else none
def v7:D->Nat
 | .obj _ a _ _=>a
 | _=>0
def AR(i:Nat)(C:Nat)(m:Str)(G:LD->N7 (D×D))(F:R->N7 LD)(S:List Nat)(ρ:R):N7 (D×R):=(g4 i ρ).bind fun ob=>(F ρ).bind fun ds=>(G (ob::ds)).bind fun r =>
 match ob with
 | .obj k _ ks _=>if k=C+2/\ks.contains m=false/\s9 i ρ=true/\ym S (adr ob)=true then some (r.1,ρ.set i (some r.2)) else none
 | _=>none
def El(C:Nat)(m:Str)(G:LD->OD)(f:R->OD)(F:R->N7 LD):R->OD:=fun ρ=>(f ρ).bind fun ob=>(F ρ).bind fun ds=>match ob with
 | .obj k _ ks _=>if k=C+2/\ks.contains m=false then G (ob::ds) else none
 | _=>none
def vO(N C:Nat)(f:Str)(g:MU)(ds:LD)(a l:Nat):OD:=(g [a] (yo N (.obj (C+2) a [] []::ds))).bind fun o=>match o with
 | .nx ρ=>match g4 0 ρ with
  | some (.obj k b ks es)=>if k=C+2/\b=a/\n6 es=true/\ks.length<100 then some (.obj k b (putD ks es f (.obj 0 l [] [])).1 (putD ks es f (.obj 0 l [] [])).2) else none
  | _=>none
 | _=>none
noncomputable def CH(i:Nat)(mk:LD->Nat->Nat->OD)(F:R->N7 LD)(w:MU):R->N7 Out:=fun ρ=>(F ρ).bind fun ds=>open Classical in
 if h:i<ρ.length/\∃r,∀a l,a≠l->∃ob ρ',mk ds a l=some ob/\w [a,l] (ρ.set i (some ob))=some (.rt r ρ') then some (.rt h.2.choose) else none
theorem GC{i:Nat}{mk:LD->Nat->Nat->OD}{F:R->N7 LD}{w:MU}{ρ:R}{ds:LD}{r:D}(h1:F ρ=some ds)(hi:i<ρ.length)(h2:∀a l,a≠l->∃ob ρ',mk ds a l=some ob/\w [a,l] (ρ.set i (some ob))=some (.rt r ρ')):CH i mk F w ρ=some (.rt r):=by
 unfold CH
 rw[h1,Oc,dif_pos ⟨hi,r,h2⟩]
 have z:=(show ∃r,∀a l,a≠l->∃ob ρ',mk ds a l=some ob/\w [a,l] (ρ.set i (some ob))=some (.rt r ρ') from⟨r,h2⟩).choose_spec 0 1 (by decide)
 obtain⟨ob,ρ',e1,e2⟩:=z
 obtain⟨ob2,ρ2,e3,e4⟩:=h2 0 1 (by decide)
 rw[e1] at e3
 cases e3
 rw[e2] at e4
 exact congrArg (fun x=>some (Out.rt x)) (MO.rt.inj (Ow e4)).1
theorem Hm{i:Nat}{mk:LD->Nat->Nat->OD}{F:R->N7 LD}{w:MU}{ρ:R}{o:Out}(h:CH i mk F w ρ=some o):∃ds r,F ρ=some ds/\i<ρ.length/\o=.rt r/\∀a l,a≠l->∃ob ρ',mk ds a l=some ob/\w [a,l] (ρ.set i (some ob))=some (.rt r ρ'):=by
 cases e:F ρ with
 | none=>unfold CH at h;rw[e] at h;cases h
 | some ds =>
  unfold CH at h
  rw[e,Oc] at h
  split at h
  ·rename_i q
   cases h
   exact⟨ds,_,rfl,q.1,rfl,q.2.choose_spec⟩
  ·cases h
def Gq:LD->OD
 | [.lst es]=>(intsOf es).bind fun ns=>if ns.length<=1000/\ns.all (fun n=>decide (0<=n/\n<1099511627776))=true then some (.int ns.sum) else none
 | _=>none
end HW
namespace HW
open PySem PySem.Spec PyProof.Rows L2
def IZ:N7 HO->Prop
 | some (.ins _ _ _)=>True
 | some (.dK _)=>True
 | some (.frz _ (.own _))=>True
 | _=>False
def sy(S:List Nat)(H H':Hp):Prop:=∀b u,b∉S->H b=some u->H' b=some u
def rQ(S:List Nat)(H:Hp):Prop:=∀b∈S,IZ (H b)
section
variable{S T:List Nat}{H H' H1 H2:Hp}{K:N_}
theorem sy.of(h:i9 H H'):sy S H H':=fun b u _ e=>h b u e
theorem sy.refl:sy S H H:=fun _ _ _ e=>e
theorem sy.trans(h:sy S H H1)(k:sy S H1 H2):sy S H H2:=fun b u n e=>k b u n (h b u n e)
theorem sy.mono(h:sy S H H')(hs:∀b∈S,b∈T):sy T H H':=fun b u n e=>h b u (fun z=>n (hs b z)) e
theorem rQ.same(m:rQ S H)(s:i9 H H'):rQ S H':=fun b hb=>by
 have h:=m b hb
 cases e:H b with
 | none=>rw[e] at h;exact h.elim
 | some u=>rw[s b u e];rw[e] at h;exact h
theorem rQ.nin{a:Nat}{u:HO}(m:rQ S H)(e:H a=some u)(n:¬ IZ (some u)):a∉S:=fun z=>n (by have:=m a z;rw[e] at this;exact this)
theorem sy.tup{a:N9}{xs:List V}(m:rQ S H)(s:sy S H H')(h:vg K H a xs):vg K H' a xs:=by
 rcases h with (h | ⟨o,h⟩) | h
 ·exact .inl (.inl (s _ _ (m.nin h fun z=>z) h))
 ·exact .inl (.inr ⟨o,s _ _ (m.nin h fun z=>z) h⟩)
 ·exact .inr h
theorem sy.seq{a:N9}{xs:List V}(m:rQ S H)(s:sy S H H')(h:uJ K H a xs):uJ K H' a xs:=by
 rcases h with (h | ⟨o,h⟩) | h
 ·exact .inl (.inl (s _ _ (m.nin h fun z=>z) h))
 ·exact .inl (.inr ⟨o,s _ _ (m.nin h fun z=>z) h⟩)
 ·exact .inr h
end
mutual
theorem Rep.kq{S:List Nat}{K:N_}{H H':Hp}(m:rQ S H)(s:sy S H H'):∀{d:D} {v:V},sk d=true->Rep K H d v->Rep K H' d v
 | .non,_,_,h=>h
 | .bl _,_,_,h=>h
 | .int _,_,_,h=>h
 | .str _,_,_,h=>h
 | .tup ds,_,hn,h=>by
  obtain⟨a,xs,e,q,r⟩:=h
  exact⟨a,xs,e,s.tup m q,i8.kq m s hn r⟩
 | .lst ds,_,hn,h=>by
  obtain⟨a,xs,e,q,r⟩:=h
  exact⟨a,xs,e,s _ _ (m.nin q fun z=>z) q,i8.kq m s hn r⟩
 | .fro ds,_,hn,h=>by
  obtain⟨a,xs,e,q,r⟩:=h
  exact⟨a,xs,e,s.seq m q,i8.kq m s hn r⟩
 | .obj ..,_,hn,_=>by cases hn
 | .rf ..,_,hn,_=>by cases hn
theorem i8.kq{S:List Nat}{K:N_}{H H':Hp}(m:rQ S H)(s:sy S H H'):∀{ds:LD} {vs:List V},n6 ds=true->i8 K H ds vs->i8 K H' ds vs
 | [],_,_,h=>h
 | d::ds,_,hn,h=>by
  have hn':(sk d&&n6 ds)=true:=hn
  rw[Oe] at hn'
  obtain⟨v,r,e,q,t⟩:=h
  exact⟨v,r,e,Rep.kq m s hn'.1 q,i8.kq m s hn'.2 t⟩
end
section
variable{S T:List Nat}{H H' H1 H2:Hp}{K:N_}
theorem Hr.mut{k a:Nat}{ks:List Str}{vs:List V}(h:Hr H k a ks vs):IZ (H a):=by
 match k,h with
 | 0,⟨_,_,_,_,e⟩=>rw[e];trivial
 | 1,⟨_,e⟩=>rw[e];trivial
 | C+2,⟨_,_,e⟩=>rw[e];trivial
theorem i8.mem:∀{ds:LD} {vs:List V} {d:D},i8 K H ds vs->d∈ds->∃v,Rep K H d v
 | [],_,_,_,h=>by cases h
 | e::ds,vs,d,h,hd=>by
  obtain⟨v,r,_,q,t⟩:=h
  rcases Oj.mp hd with rfl | hd
  ·exact⟨v,q⟩
  ·exact i8.mem t hd
theorem uN{ob:D}{v:V}(r:Rep K H ob v):rQ (adr ob) H:=fun b hb=>by
 cases ob with
 | obj k a ks es =>
  obtain⟨xs,_,q,t⟩:=r
  rcases Oj.mp hb with rfl | hb
  ·exact q.mut
  ·obtain⟨e,he,hb⟩:=List.mem_flatMap.mp hb
   cases e with
   | obj k' a' ks' es' =>
    obtain⟨v',xs',_,q',_⟩:=i8.mem t he
    rw[show b=a' from Od.mp hb]
    exact q'.mut
   | _=>cases hb
 | _=>cases hb
theorem CA{as:List Nat}(h:ym S as=true):∀b∈as,b∈S:=fun b hb=>by
 have:=Oz.mp h b hb
 simpa using this
theorem lW{ob:D}{v:V}(h:vk ob=true)(r:Rep K H ob v):v=.ref (v7 ob):=by
 cases ob with
 | obj k a ks es=>obtain⟨xs,e,_⟩:=r;exact e
 | _=>cases h
theorem nV{ρ:R}{σ:L2.St}{i:Nat}{ob':D}{v:V}(er:se K H ρ σ)(m:rQ S H)(s:sy S H H')(hn:s9 i ρ=true)(hv:σ[i]?=some (some v))(r:Rep K H' ob' v):se K H' (ρ.set i (some ob')) σ:=by
 refine⟨by rw[Pk];exact er.1,fun j d h=>?_⟩
 by_cases hj:j=i
 ·subst hj
  have hl:j<ρ.length:=by have:=(OI.mp h).1;simpa using this
  rw[O5 hl] at h
  cases h
  exact⟨v,hv,r⟩
 ·rw[O8 (Ne.symm hj)] at h
  obtain⟨u,h1,h2⟩:=er.2 j d h
  have hd:uL (some d)=true:=Oz.mp hn _ (O7 (i:=j) (by rw[O8 (Ne.symm hj)];exact h))
  exact⟨u,h1,Rep.kq m s hd h2⟩
theorem ii{ρ:R}{σ τ:L2.St}{i:Nat}{ob':D}{v:V}(er:sd K H ρ τ σ)(m:rQ S H)(s:sy S H H')(hn:s9 i ρ=true)(hv:σ[i]?=some (some v))(r:Rep K H' ob' v):sd K H' (ρ.set i (some ob')) τ σ:=
 ⟨nV er.1 m s hn hv r,by rw[Pk];exact er.2⟩
def HK(K:N_)(H:Hp)(ρ:R):Prop:=∀(j:Nat) (d:D),ρ[j]?=some (some d)->vk d=true->Rep K H d (.ref (v7 d))
theorem HK.of{ρ:R}{σ:L2.St}(e:se K H ρ σ):HK K H ρ:=fun j d h ho=>by
 obtain⟨v,_,r⟩:=e.2 j d h
 rw[<- lW ho r];exact r
variable(K)
def K1(E:Ends)(τ:L2.St)(o:MO)(H':Hp):Prop:=
 match o with
 | .nx ρ=>∀ σ,sd K H' ρ τ σ->E.nx σ H'
 | .rt d ρ=>∀v,Rep K H' d v->HK K H' ρ->E.rt v H'
def J6(S:List Nat)(u:MU):TS:=fun E σ H=>∃ ρ τ o,sd K H ρ τ σ/\rQ S H/\u S ρ=some o/\∀H',sy S H H'->rQ S H'->K1 K E τ o H'
def Dm(S:List Nat)(J:It)(ds:LD)(H:Hp):Prop:=
 (∀(i:Nat) (d:D) (H2:Hp),sy S H H2->ds[i]?=some d->J.go i H2/\∀x H3,J.yld i H2 x H3->i9 H2 H3/\Rep K H3 d x)/\∀(i:Nat) (H2:Hp),sy S H H2->ds.length<=i->J.stop i H2
def Ny(S:List Nat)(f:R->N7 LD):L2.TI:=fun σ H W=>∃ ρ ds,se K H ρ σ/\rQ S H/\f ρ=some ds/\n6 ds=true/\∀J H',i9 H H'->Dm K S J ds H'->W J H'
def D2(j:Nat)(G:LD->N7 (D×D)):Sp:=fun vs H Q _=>∃ds ob d o',i8 K H ds vs/\ds[j]?=some ob/\vk ob=true/\G ds=some (d,o')/\∀v H',sy (adr ob) H H'->rQ (adr ob) H'->Rep K H' d v->Rep K H' o' (.ref (v7 ob))->Q v H'
end
def MS(X:Cx)(st:OE)(u:MU):Prop:=∀S,PS X st (J6 X.K S u)
def Bx(X:Cx)(sts:List OE)(u:MU):Prop:=∀S,PSs X sts (J6 X.K S u)
def Nn(X:Cx)(tg iter:OG)(f:R->N7 LD):Prop:=∀S,PI X tg iter (Ny X.K S f)
section
variable{X:Cx}{st:OE}{sts:List OE}{u w:MU}{pos:Pos}
theorem EQ{E:Ends}{σ:L2.St}{H:Hp}{K:N_}{S:List Nat}{p:R->N7 Out}(q:J6 K S (sH p) E σ H):HC K p E σ H:=by
 obtain⟨ρ,τ,o,er,m,e,q⟩:=q
 obtain⟨o1,e1,e⟩:=i5 e
 refine⟨ρ,τ,o1,er,e1,fun H' s=>?_⟩
 cases o1 with
 | nx ρ2=>cases e;exact q H' (sy.of s) (m.same s)
 | rt d=>cases e;exact fun v rv=>q H' (sy.of s) (m.same s) v rv (HK.of (er.mono s).1)
 | bk ρ2=>cases e
 | ct ρ2=>cases e
theorem bD{p:R->N7 Out}(h:S1 X st p):MS X st (sH p):=fun S=>PS.imp h fun E σ H z=>EQ z
theorem eE:Bx X [] vE:=fun S=>yE.imp fun E σ H ⟨ρ,τ,o,er,m,e,q⟩=>by
 cases e
 exact q H sy.refl m σ er
theorem Gv{E:Ends}{σ:L2.St}{H:Hp}{K:N_}{S:List Nat}(q:J6 K S (tm u w) E σ H):J6 K S u {E with nx:=J6 K S w E} σ H:=by
 obtain⟨ρ,τ,o,er,m,e,q⟩:=q
 obtain⟨o1,e1,e⟩:=i5 e
 refine⟨ρ,τ,o1,er,m,e1,fun H1 k1 m1=>?_⟩
 cases o1 with
 | nx ρ2=>exact fun σ2 er2=>⟨ρ2,τ,o,er2,m1,e,fun H2 k2 m2=>q H2 (k1.trans k2) m2⟩
 | rt d ρ2=>cases e;exact q H1 k1 m1
theorem aI(h1:MS X st u)(h2:Bx X sts w):Bx X (st::sts) (tm u w):=fun S=>(dM (h1 S) (h2 S)).imp fun E σ H q=>Gv q
theorem bq(h1:MS X st u):Bx X [st] u:=fun S=>dh (h1 S)
theorem kL{c:OG}{s:R->N7 Bool}{B1 B2:List OE}(hc:ST X c s)(ha:Bx X B1 u)(hb:Bx X B2 w):MS X (.If c B1 B2 pos) (Gh s u w):=fun S=>(jw hc (ha S) (hb S)).imp fun E σ H ⟨ρ,τ,o,er,m,e,q⟩=>by
 obtain⟨x,e1,e⟩:=i5 e
 refine⟨ρ,x,er.1,e1,fun H1 s1=>?_⟩
 cases x with
 | true=>rw[Of rfl] at e ⊢;exact⟨ρ,τ,o,er.mono s1,m.same s1,e,fun H2 k2 m2=>q H2 ((sy.of s1).trans k2) m2⟩
 | false=>rw[Ov Oi] at e ⊢;exact⟨ρ,τ,o,er.mono s1,m.same s1,e,fun H2 k2 m2=>q H2 ((sy.of s1).trans k2) m2⟩
theorem kM{K:N_}{S:List Nat}{H:Hp}{a b:Int}:Dm K S (J2 a (b - a).toNat) (uZ a b) H:=by
 have y:∀H,vX K (J2 a (b - a).toNat) (uZ a b) H:=fun H=>iS
 exact⟨fun i d H2 _ e=>(y H2).1 i d H2 (Kp.refl H2) e,fun i H2 _ hl=>(y H2).2 i H2 (Kp.refl H2) hl⟩
theorem oh{tg a:OG}{f:R->OD}{p:Pos}(hm:X.mg "range" = none)(ha:SE X a f)(hg:Gl X "range":=by rfl)(hs:noStar a=true:=by rfl):Nn X tg (.Call (.Name "range" p) [a] [] pos) (vP f):=fun S =>
 (jA hg hm (ac ha af hs).1 (aJ [] X.env hs)).imp fun σ H W ⟨ρ,ds,er,m,e,hn,q⟩=>by
  obtain⟨x,e1,e⟩:=i5 e
  cases x with
  | int j =>
   dsimp only at e
   split at e
   ·rename_i hj
    cases e
    refine⟨ρ,[.int j],er,by show(f ρ).bind _=_;rw[e1];rfl,fun vs H1 s1 r1=>?_⟩
    obtain⟨v,r,rfl,r2,r3⟩:=r1
    cases (show v=_ from r2)
    cases (show r=_ from r3)
    refine⟨j,rfl,hj.1,hj.2,q _ H1 s1 ?_⟩
    have z:=kM (K:=X.K) (S:=S) (H:=H1) (a:=0) (b:=j)
    rw[Int.sub_zero] at z
    exact z
   ·cases e
  | _=>cases e
theorem qA{tg iter:OG}{B:List OE}{it:R->N7 LD}{stf:D->R->N7 R}(hp:PassesOwn (model X.prog X.w) X.A X.env X.xe)(hc:X.calm=true)(hi:Nn X tg iter it)(hg:SG X tg stf)(hb:Bx X B u)
  (hs:∀x,foldedSetIterable iter X.env x=pure x:=by intro _;rfl):MS X (.For tg iter B [] pos) (Hj it stf u):=fun S=>(oZ hp hc (hi S) hg (hb S) hs).imp fun E σ H ⟨ρ,τ,o,er,m,e,q⟩=>by
 obtain⟨ds,e1,e⟩:=i5 e
 split at e
 case isFalse=>cases e
 case isTrue hn =>
 refine⟨ρ,ds,er.1,m,e1,hn,fun J H1 s1 y=>?_⟩
 refine⟨fun i n σ' H'=>n=ds.length - i/\i<=ds.length/\sy S H1 H'/\rQ S H'/\∃ ρ',sd X.K H' ρ' τ σ'/\D8 stf u S (ds.drop i) ρ'=some o,⟨ds.length,by simp,Pg _,sy.refl,m.same s1,ρ,er.mono s1,by simpa using e⟩,?_⟩
 rintro i n σ' H' ⟨rfl,hi,s2,m2,ρ',er',e'⟩
 by_cases hlt:i<ds.length
 ·refine .inr ?_
  have hd:ds[i]?=some ds[i]:=by simp[hlt]
  obtain⟨hgo,hy⟩:=y.1 i ds[i] H' s2 hd
  rw[Ph hlt] at e'
  obtain⟨ρ1,e2,e'⟩:=i5 e'
  obtain⟨o1,e3,e'⟩:=i5 e'
  refine⟨hgo,fun σ2 H2=>i+1<=ds.length/\sy S H1 H2/\rQ S H2/\∃ ρ',sd X.K H2 ρ' τ σ2/\D8 stf u S (ds.drop (i+1)) ρ'=some o,fun σ2 H2 n2=>⟨ds.length - (i+1),by omega,rfl,n2.1,n2.2⟩,fun x H3 yx=>?_⟩
  obtain⟨s3,rx⟩:=hy x H3 yx
  refine⟨ρ',τ,ds[i],ρ1,er'.mono s3,rx,e2,fun σ4 H4 s4 er4=>⟨ρ1,τ,o1,er4,(m2.same s3).same s4,e3,fun H5 s5 m5=>?_⟩⟩
  have s15:sy S H1 H5:=s2.trans ((sy.of s3).trans ((sy.of s4).trans s5))
  cases o1 with
  | nx ρ2=>exact fun σ6 er6=>⟨hlt,s15,m5,ρ2,er6,e'⟩
  | rt d ρ2=>cases e';exact q H5 ((sy.of s1).trans s15) m5
 ·have e4:i=ds.length:=by omega
  subst e4
  rw[List.drop_length] at e'
  cases e'
  exact .inl ⟨y.2 _ H' s2 (Oo _),q H' ((sy.of s1).trans s2) m2 σ' er'⟩
end
section
variable{K:N_}{H H':Hp}
theorem xk{x:Str}{d:D}:∀{ks:List Str} {ds:LD} {vs:List V},yV ks ds x=some d->i8 K H ds vs->ks.length=vs.length->∃v,(ks.zip vs).lookup x=some v/\Rep K H d v
 | [],_,_,e,_,_=>by cases e
 | k::ks,[],_,e,_,_=>by cases e
 | k::ks,c::ds,vs,e,r,hl=>by
  obtain⟨v,vr,rfl,r1,r2⟩:=r
  have e':(if k=x then some c else yV ks ds x)=some d:=e
  show ∃u,List.lookup x ((k,v)::ks.zip vr)=some u/\Rep K H d u
  by_cases h:k=x
  ·subst h
   rw[Of rfl] at e'
   cases e'
   exact⟨v,by simp,r1⟩
  ·rw[Ov h] at e'
   obtain⟨u,h1,h2⟩:=xk e' r2 (by simpa using hl)
   refine⟨u,?_,h2⟩
   rw[List.lookup_cons]
   have hb:(x==k)=false:=OP.mpr (Ne.symm h)
   rw[hb];exact h1
theorem vQ{x:Str}:∀{ks:List Str} {vs:List V},ks.contains x=false->(ks.zip vs).lookup x=none
 | [],_,_=>rfl
 | k::ks,[],_=>rfl
 | k::ks,v::vs,h=>by
  have h':(x==k||ks.contains x)=false:=by simpa [List.contains_cons] using h
  rw[Bool.or_eq_false_iff] at h'
  show List.lookup x ((k,v)::ks.zip vs)=none
  rw[List.lookup_cons,h'.1]
  exact vQ h'.2
theorem An{x:Str}{e:D}{y:V}:∀{ks:List Str} {ds:LD} {vs:List V},ks.length=vs.length->ds.length=vs.length->∃vs',uD x y (ks.zip vs)=(putD ks ds x e).1.zip vs'/\(putD ks ds x e).1.length=vs'.length/\(i8 K H' ds vs->Rep K H' e y->i8 K H' (putD ks ds x e).2 vs')
 | [],[],[],_,_=>⟨[y],rfl,rfl,fun _ r=>⟨y,[],rfl,r,rfl⟩⟩
 | k::ks,d::ds,v::vs,h1,h2=>by
  obtain⟨vs',a,b,c⟩:=An (x:=x) (e:=e) (y:=y) (ks:=ks) (ds:=ds) (vs:=vs) (by simpa using h1) (by simpa using h2)
  by_cases h:k=x
  ·refine⟨y::vs,?_,?_,fun r re=>?_⟩
   ·show(if k=x then (k,y)::ks.zip vs else _)=(putD (k::ks) (d::ds) x e).1.zip _
    rw[Of h,putD,Of h];rfl
   ·rw[putD,Of h];simpa using h1
   ·rw[putD,Of h]
    obtain⟨u,r',q,r1,r2⟩:=r
    cases q
    exact⟨y,vs,rfl,re,r2⟩
  ·refine⟨v::vs',?_,?_,fun r re=>?_⟩
   ·show(if k=x then _ else (k,v)::uD x y (ks.zip vs))=(putD (k::ks) (d::ds) x e).1.zip _
    rw[Ov h,putD,Ov h,a];rfl
   ·rw[putD,Ov h];simpa using b
   ·rw[putD,Ov h]
    obtain⟨u,r',q,r1,r2⟩:=r
    cases q
    exact⟨_,vs',rfl,r1,c r2 re⟩
 | [],_::_,[],_,h=>by cases h
 | [],_,_::_,h,_=>by cases h
 | _::_,_,[],h,_=>by cases h
 | _::_,[],_::_,_,h=>by cases h
theorem pP{a C dx:Nat}{fs:List (Str×V)}{o:HO}(ha:H a=some (.ins C dx fs)):∀{d:D} {v:V},okN d=true->Rep K H d v->Rep K (upd H a o) d v:=by
 have m:rQ [a] H:=fun b hb=>by rw[Od.mp hb,ha];trivial
 have s:sy [a] H (upd H a o):=fun b u n e=>by rw[aq fun z=>n (by rw[z];exact Od.mpr rfl)];exact e
 intro d v h r
 match d,h,r with
 | .obj 0 l ls es,h,⟨xs,e,⟨z,its,n,rv,q⟩,t⟩ =>
  have hla:l≠a:=fun z=>by rw[z,ha] at q;cases q
  exact⟨xs,e,⟨z,its,n,rv,by rw[aq hla];exact q⟩,i8.kq m s h t⟩
 | .obj (k+1) l ls es,h,_=>cases (show sk (.obj (k+1) l ls es)=true from h)
 | .rf a,h,_=>cases (show sk (.rf a)=true from h)
 | .non,_,r=>exact r
 | .bl _,_,r=>exact r
 | .int _,_,r=>exact r
 | .str _,_,r=>exact r
 | .tup ds,h,r=>exact Rep.kq m s (d:=.tup ds) h r
 | .lst ds,h,r=>exact Rep.kq m s (d:=.lst ds) h r
 | .fro ds,h,r=>exact Rep.kq m s (d:=.fro ds) h r
theorem kP{a C dx:Nat}{fs:List (Str×V)}{o:HO}(ha:H a=some (.ins C dx fs)):∀{ds:LD} {vs:List V},ds.all okN=true->i8 K H ds vs->i8 K (upd H a o) ds vs
 | [],_,_,r=>r
 | d::ds,_,h,r=>by
  rw[O2,Oe] at h
  obtain⟨v,vr,e,r1,r2⟩:=r
  exact⟨v,vr,e,pP ha h.1 r1,kP ha h.2 r2⟩
theorem lf{d:D}(h:sk d=true):vM d=[]:=by cases d<;>first | rfl | cases h
end
section
variable{X:Cx}{pos:Pos}
theorem bW{a:OG}{f:Str}{C:Nat}{g:R->OD}(c:vI X.K C)(n:rK X.K C f)(ha:SE X a g)(hb:attributeBase a f X.env (eval a X.env)=eval a X.env:=by rfl):SE X (.Attribute a f pos) (vC (sZ C f) g):=(lH ha hb).imp fun σ H Q ⟨ρ,d,er,e,q⟩=>by
 obtain⟨x,e1,e⟩:=i5 e
 refine⟨ρ,x,er,e1,fun v H1 s1 r1=>?_⟩
 cases x with
 | obj k a ks ds =>
  have e':(if k=C+2 then yV ks ds f else none)=some d:=e
  split at e'
  ·rename_i hk
   subst hk
   obtain⟨xs,ev,⟨hl,dx,hH⟩,t⟩:=r1
   obtain⟨u,h1,h2⟩:=xk e' t hl
   exact⟨a,C,dx,_,u,ev,hH,c,n,h1,q u H1 s1 h2⟩
  ·cases e'
 | _=>cases e
theorem dP{x f:Str}{value:OG}{g:R->OD}{C:Nat}{px pos':Pos}(i:Nat)(c:vI X.K C)(n:rK X.K C f)(he:SE X value g)(hN:X.N[i]?=some x:=by rfl)(hv:BS X.env.scope x:=by first | exact Or.inl rfl | exact Or.inr (Or.inl rfl) | exact Or.inr (Or.inr rfl))
  (hd:(x==("__debug__" : Str))=false:=by decide) (hcd:(x==("__classdict__" : Str))=false:=by decide) (hs:swapsWith value (some (.Attribute (.Name x px) f pos')) pos.line X.env=pure false:=by rfl):MS X (.Assign [.Attribute (.Name x px) f pos'] value pos) (uT i C f g):=fun S =>
 (ox (pv i hN hv hd hcd) he hs).imp fun E σ H ⟨ρ,τ,o,er,m,e,q⟩=>by
  obtain⟨d,e1,e⟩:=i5 e
  refine⟨ρ,d,er.1,e1,fun y H1 s1 ry=>?_⟩
  split at e
  case h_2=>cases e
  case h_1 k a ks ds hat =>
  split at e
  case isFalse=>cases e
  case isTrue hc =>
  obtain⟨rfl,h1,h2,h3,h4,h5,h6⟩:=hc
  cases e
  obtain⟨v,hσ,rv⟩:=(er.mono s1).1.at hat
  obtain⟨xs,ev,⟨hl,dx,hH⟩,t⟩:=rv
  subst ev
  have hdl:ds.length=xs.length:=t.length
  refine⟨.ref a,hσ,a,C,dx,_,rfl,hH,c,n,?_,?_⟩
  ·rw[List.length_zip];omega
  have ma:rQ [a] H1:=fun b hb=>by rw[Od.mp hb,hH];trivial
  generalize ho:HO.ins C dx (uD f y (ks.zip xs))=o'
  have kq:sy [a] H1 (upd H1 a o'):=fun b u nb eb=>by rw[aq fun z=>nb (by rw[z];exact Od.mpr rfl)];exact eb
  obtain⟨vs',p1,p2,p3⟩:=An (K:=X.K) (H':=upd H1 a o') (x:=f) (e:=d) (y:=y) (ks:=ks) (ds:=ds) (vs:=xs) hl hdl
  have rob:Rep X.K (upd H1 a o') (.obj (C+2) a (putD ks ds f d).1 (putD ks ds f d).2) (.ref a):=by
   refine⟨vs',rfl,⟨p2,dx,?_⟩,p3 (kP hH h5 t) (Rep.kq ma kq h1 ry)⟩
   rw[av,<- ho,p1]
  have hin:=CA h3
  have haS:a∈S:=hin a (ON ..)
  have kqS:sy S H1 (upd H1 a o'):=kq.mono fun b hb=>by rw[Od.mp hb];exact haS
  have m1:=m.same s1
  have mS:rQ S (upd H1 a o'):=fun b hb=>by
   by_cases hba:b=a
   ·rw[hba,av,<- ho];trivial
   ·rw[aq hba];exact m1 b hb
  exact q _ ((sy.of s1).trans kqS) mS σ (ii (er.mono s1) m1 kqS h2 hσ rob)
section
variable{pins:List (N9×Obj)}{σ:L2.St}{H:Hp}{s:Oa}{a:N9}{xs:List V}{its:List N8}{n:Nat}
theorem Dt(I:L2.Inv X pins σ H s)(h:H a=some (.frz {cls:=.type "list",data:=.seq its.toArray n} (.own 0)))(r:l4 xs its)(z:xs.length<=sizeLine):L2.Inv X pins σ (upd H a (.lst xs)) s:=by
 have e:=(I.hok a _ h).1
 have:=I.write (t':=s.toks) (h':=s.heap) (o:=.lst xs) (x:=a) (e:=a) (by rw[h];trivial) (.inl rfl) (fun _ _ _ q=>q) ⟨_,e⟩ ⟨z,its,n,r,e⟩
 exact this
theorem Aq(I:L2.Inv X pins σ H s)(h:H a=some (.lst xs)):∃(its:List N8) (n:Nat),l4 xs its/\xs.length<=sizeLine/\L2.Inv X pins σ (upd H a (.frz {cls:=.type "list",data:=.seq its.toArray n} (.own 0))) s:=by
 obtain⟨z,its,n,r,e⟩:=I.hok a _ h
 have:=I.write (t':=s.toks) (h':=s.heap) (o:=.frz {cls:=.type "list",data:=.seq its.toArray n} (.own 0)) (x:=a) (e:=a) (by rw[h];trivial) (.inl rfl) (fun _ _ _ q=>q) ⟨_,e⟩ ⟨e,⟨_,e⟩⟩
 exact⟨its,n,r,z,this⟩
end
end
section
variable{K:N_}{H H':Hp}
theorem i8.kqf(kq:∀{d:D} {v:V},sk d=true->Rep K H d v->Rep K H' d v):∀{ds:LD} {vs:List V},n6 ds=true->i8 K H ds vs->i8 K H' ds vs
 | [],_,_,r=>r
 | d::ds,_,h,r=>by
  have h':(sk d&&n6 ds)=true:=h
  rw[Oe] at h'
  obtain⟨v,vr,e,r1,r2⟩:=r
  exact⟨v,vr,e,kq h'.1 r1,i8.kqf kq h'.2 r2⟩
theorem fS{x:Str}{e e':D}{y:V}:∀{ks:List Str} {ds:LD} {vs:List V},yV ks ds x=some e->(ks.zip vs).lookup x=some y->i8 K H ds vs->ks.length=vs.length->n6 (putD ks ds x .non).2=true ->
  (∀{d:D} {v:V},sk d=true->Rep K H d v->Rep K H' d v)->Rep K H' e' y->(putD ks ds x e').1=ks/\i8 K H' (putD ks ds x e').2 vs
 | [],_,_,h,_,_,_,_,_,_=>by cases h
 | k::ks,[],_,h,_,_,_,_,_,_=>by cases h
 | k::ks,c::ds,vs,h,hl,r,hn,hb,kq,re=>by
  obtain⟨v,vr,rfl,r1,r2⟩:=r
  have h':(if k=x then some c else yV ks ds x)=some e:=h
  have hl':List.lookup x ((k,v)::ks.zip vr)=some y:=hl
  by_cases hx:k=x
  ·subst hx
   rw[putD,Of rfl] at hb ⊢
   have hb':(sk D.non&&n6 ds)=true:=hb
   rw[Oe] at hb'
   have:v=y:=by simpa using hl'
   subst this
   exact⟨rfl,v,vr,rfl,re,i8.kqf kq hb'.2 r2⟩
  ·rw[Ov hx] at h'
   rw[putD,Ov hx] at hb ⊢
   have hb':(sk c&&n6 (putD ks ds x .non).2)=true:=hb
   rw[Oe] at hb'
   have hxk:(x==k)=false:=OP.mpr (Ne.symm hx)
   rw[List.lookup_cons,hxk] at hl'
   obtain⟨g1,g2⟩:=fS h' hl' r2 (by simpa using hn) hb'.2 kq re
   exact⟨by show k::(putD ks ds x e').1=_;rw[g1],v,vr,rfl,kq hb'.1 r1,g2⟩
end
theorem wm{i:Nat}{ρ:R}{d:D}(h:g4 i ρ=some d):ρ[i]?=some (some d):=by
 have h:ρ.getD i none=some d:=h
 rw[OU] at h
 cases e:ρ[i]? with
 | none=>rw[e] at h;cases h
 | some o=>rw[e] at h;cases o with | none=>cases h | some c=>cases h;rfl
theorem wy{a b:D}(h1:vk a=true)(h2:vk b=true)(h:adr a=adr b):v7 a=v7 b:=by
 cases a with
 | obj k x ks ds =>
  cases b with
  | obj k' y ks' ds'=>exact(List.cons.inj h).1
  | _=>cases h2
 | _=>cases h1
section
variable{X:Cx}{pos:Pos}
theorem qX{x f:Str}{value:OG}{g:R->OD}{C:Nat}{px pf ap cp:Pos}(i:Nat)(c:vI X.K C)(n:rK X.K C f)(he:SE X value g)(hN:X.N[i]?=some x:=by rfl)(hv:BS X.env.scope x:=by first | exact Or.inl rfl | exact Or.inr (Or.inl rfl) | exact Or.inr (Or.inr rfl))
  (hd:(x==("__debug__" : Str))=false:=by decide) (hcd:(x==("__classdict__" : Str))=false:=by decide) (hb1:attributeBase (.Name x px) f X.env (eval (.Name x px) X.env)=eval (.Name x px) X.env:=by rfl)
  (hbase:attributeBase (.Attribute (.Name x px) f pf) "append" X.env (eval (.Attribute (.Name x px) f pf) X.env)=eval (.Attribute (.Name x px) f pf) X.env:=by rfl) (hst:noStar value=true:=by rfl)
  (hline:(ap.endLine==cp.line)=true:=by rfl) (hs:swapsWith (.Call (.Attribute (.Attribute (.Name x px) f pf) "append" ap) [value] [] cp) none pos.line X.env=pure false:=by rfl) :
  MS X (.Expr (.Call (.Attribute (.Attribute (.Name x px) f pf) "append" ap) [value] [] cp) pos) (G4 i C f g):=by
 intro S pins s σ H E I ⟨ρ,τ,o,er,m,e,q⟩
 obtain⟨d,e1,e⟩:=i5 e
 split at e
 case h_2=>cases e
 case h_1 k a ks ds hat =>
 split at e
 case h_2=>cases e
 case h_1 l ls es hkey =>
 split at e
 case isFalse=>cases e
 case isTrue hc =>
 obtain⟨rfl,h1,h2,h3,h4,h5,h6,h7⟩:=hc
 cases e
 have hst1:=aJ [] X.env hst
 obtain⟨v,hσ,rv⟩:=er.1.at hat
 obtain⟨xs,ev,⟨hl,dx,hH⟩,t⟩:=rv
 subst ev
 obtain⟨y,hlk,ry⟩:=xk hkey t hl
 obtain⟨ys,ey,⟨hz,its,nn,rv,hL⟩,ty⟩:=ry
 subst ey
 refine wpAny_Expr_any (wpAny_Call_method_late hbase ?_ hline rfl (sh ((lH (pv i (pos:=px) hN hv hd hcd) hb1) pins s σ H (fun v H1=>v=.ref l/\H1=H) I ⟨.ref a,hσ,a,C,dx,_,.ref l,rfl,hH,c,n,hlk,rfl,rfl⟩) fun v s1 ⟨y,H1,I1,r1,ey,eH⟩=>?_)) I.quiet hs
 ·rw[hst1]
  rfl
 subst ey eH
 cases (show v=_ from r1)
 have eo:=(I1.hok l _ hL).1
 refine⟨"list","list.append",PySem.F.plainAttrs_list,PySem.F.slot_list_append,PySem.F.type_list_append,⟨_,eo,rfl⟩,fun b eb=>?_,?_⟩
 ·cases eb
  exact⟨_,eo,rfl⟩
 have hA:=(ac he af hst).1 cp pins s1 σ H1 (fun vs H2=>i9 H1 H2/\i8 X.K H2 [d] vs) I1 ⟨ρ,[d],er.1,by show(g ρ).bind _=_;rw[e1];rfl,fun vs H2 s2 r2=>⟨s2,r2⟩⟩
 rw[hst1] at hA ⊢
 refine Calls.callWith_builtin rfl (Calls.evalArgs_plain ?_)
 refine sh hA fun us s2 ⟨vs,H2,I2,r2,s12,rd⟩=>?_
 obtain⟨w,w',rfl,rw1,rw2⟩:=rd
 cases (show w'=[] from rw2)
 have hL2:=s12 _ _ hL
 have hH2:=s12 _ _ hH
 have I3:=Dt I2 hL2 rv hz
 have hys:es.length=ys.length:=ty.length
 refine sh (jx pins s2 σ (upd H2 l (.lst ys)) (.ref l) [w] (.ref l) us (fun v H3=>H3=upd (upd H2 l (.lst ys)) l (.lst (ys++[w]))) I3 rfl r2 ⟨l,ys,w,rfl,rfl,av,by rw[<- hys,sizeLine_eq];omega,rfl⟩) fun v s3 ⟨v',H3,I4,_,e3⟩=>?_
 subst e3
 obtain⟨its',n',rv',hz',I5⟩:=Aq I4 av
 generalize hH5:upd (upd (upd H2 l (.lst ys)) l (.lst (ys++[w]))) l (.frz {cls:=.type "list",data:=.seq its'.toArray n' } (.own 0))=H5 at I5
 have k25:sy [l] H2 H5:=fun b u nb eb=>by
  have hbl:b≠l:=fun z=>nb (by rw[z];exact Od.mpr rfl)
  subst hH5
  rw[aq hbl,aq hbl,aq hbl];exact eb
 have hL5:H5 l=some (.frz {cls:=.type "list",data:=.seq its'.toArray n' } (.own 0)):=by subst hH5;exact av
 have ml:rQ [l] H2:=fun b hb=>by rw[Od.mp hb,hL2];trivial
 have hla:a≠l:=fun z=>by rw[z,hL2] at hH2;cases hH2
 have hH5a:H5 a=some (.ins C dx (ks.zip xs)):=k25 a _ (fun z=>hla (Od.mp z)) hH2
 have kq:∀{d:D} {v:V},sk d=true->Rep X.K H2 d v->Rep X.K H5 d v:=fun hn r=>Rep.kq ml k25 hn r
 have rl:Rep X.K H5 (.obj 0 l ls (es++[d])) (.ref l):=by
  refine⟨ys++[w],rfl,⟨hz',its',n',rv',hL5⟩,?_⟩
  exact i8.append (i8.kq ml k25 h5 (ty.mono s12)) (i8.one (kq h1 rw1))
 obtain⟨g1,g2⟩:=fS hkey hlk (t.mono s12) hl h6 kq rl
 have rob:Rep X.K H5 (.obj (C+2) a (putD ks ds f (.obj 0 l ls (es++[d]))).1 (putD ks ds f (.obj 0 l ls (es++[d]))).2) (.ref a):=by
  rw[g1]
  exact⟨xs,rfl,⟨hl,dx,hH5a⟩,g2⟩
 have hlS:l∈S:=by simpa using h7
 have kqS:sy S H2 H5:=k25.mono fun b hb=>by rw[Od.mp hb];exact hlS
 have m2:=m.same s12
 have mS:rQ S H5:=fun b hb=>by
  by_cases hbl:b=l
  ·rw[hbl,hL5];trivial
  ·have hm:=m2 b hb
   cases hb2:H2 b with
   | none=>rw[hb2] at hm;exact hm.elim
   | some u=>rw[k25 b u (fun z=>hbl (Od.mp z)) hb2];rw[hb2] at hm;exact hm
 exact⟨σ,H5,I5,q H5 ((sy.of s12).trans kqS) mS σ (ii (er.mono s12) m2 kqS h2 hσ rob)⟩
structure JJ (P:Oh) (w:Ot) (K:N_) (mg:Str->N7 N8) (base:OC) (k:Nat) (x:Str) (ps:List Str) (j:Nat) (G:LD->N7 (D×D)):Prop where
 ex:∃f fd,k6 P w K mg base rV k f fd ps (D2 K j G)/\mg x=some (.ref f)/\W.keepIn K (.ref f)=true/\Binds K fd ps []
structure xx (P:Oh) (w:Ot) (K:N_) (mg:Str->N7 N8) (base:OC) (k C:Nat) (m:Str) (ps:List Str) (G:LD->N7 (D×D)):Prop where
 ex:∃f fd,k6 P w K mg base rV k f fd ps (D2 K 0 G)/\BQ K C m f/\Binds K fd ps []
structure yl (P:Oh) (w:Ot) (K:N_) (mg:Str->N7 N8) (base:OC) (k C:Nat) (m:Str) (ps:List Str) (G:LD->OD):Prop where
 ex:∃f fd,k6 P w K mg base rV k f fd ps (sQ K G)/\BQ K C m f/\Binds K fd ps []
theorem JJ.m{P:Oh}{w:Ot}{K:N_}{mg:Str->N7 N8}{base:OC}{k k':Nat}{x:Str}{ps:List Str}{j:Nat}{G:LD->N7 (D×D)}(h:JJ P w K mg base k x ps j G)(hk:k<=k':=by decide):JJ P w K mg base k' x ps j G:=by
 obtain⟨f,fd,a,b⟩:=h.ex
 exact⟨f,fd,a.mono hk,b⟩
theorem xx.m{P:Oh}{w:Ot}{K:N_}{mg:Str->N7 N8}{base:OC}{k k' C:Nat}{x:Str}{ps:List Str}{G:LD->N7 (D×D)}(h:xx P w K mg base k C x ps G)(hk:k<=k':=by decide):xx P w K mg base k' C x ps G:=by
 obtain⟨f,fd,a,b⟩:=h.ex
 exact⟨f,fd,a.mono hk,b⟩
theorem yl.m{P:Oh}{w:Ot}{K:N_}{mg:Str->N7 N8}{base:OC}{k k' C:Nat}{x:Str}{ps:List Str}{G:LD->OD}(h:yl P w K mg base k C x ps G)(hk:k<=k':=by decide):yl P w K mg base k' C x ps G:=by
 obtain⟨f,fd,a,b⟩:=h.ex
 exact⟨f,fd,a.mono hk,b⟩
theorem gk{P:Oh}{w:Ot}{K:N_}{mg:Str->N7 N8}{base:OC}{x qual:Str}{st:OE}{f:N9}{fd:OV}{N ps:List Str}{k j:Nat}{g:MU}
  (Fn:sr K x qual st f fd) (Sc:i4 N ps (e9 st))
  (hb:∀(cdv:N8) (A:OJ) (outer:List Env) (s:Oa) (H:Hp) (E:XK),rO k (A.deeper (envOfC qual (e9 st) s.heap.objs.size f cdv))->Bx (uV rV P w K mg base N qual (e9 st) f cdv A outer s H E).nox (rS st) g) :
  k6 P w K mg base rV (k+1) f fd ps (D2 K j (yq ps.length N.length j g)):=by
 refine Fn.ok Sc (fun vs H Q E h=>?_) (fun cdv A outer s H vs Q E hr h=>?_)
 ·obtain⟨ds,ob,d,o',r,hj,ho,e,_⟩:=h
  rw[<- r.length]
  unfold yq at e
  split at e
  ·assumption
  ·cases e
 ·obtain⟨ds,ob,d,o',r,hj,ho,e,q⟩:=h
  unfold yq at e
  split at e
  case isFalse=>cases e
  case isTrue hlen =>
  rw[hj,Oc,Of ho] at e
  obtain⟨mo,e1,e⟩:=i5 e
  obtain⟨v,hv,rv⟩:=r.get hj
  have ms:=uN rv
  refine⟨_,hb cdv A outer s H E hr (adr ob),yo N.length ds,_,mo,(wn r).t,ms,e1,fun H1 k1 m1=>?_⟩
  cases mo with
  | rt d' ρ =>
   intro v rv ob1
   obtain⟨ob',e2,e⟩:=i5 e
   split at e
   ·rename_i hc
    obtain⟨rfl,rfl⟩:d'=d/\ob'=o':=by simpa using e
    have hat:ρ[j]?=some (some ob'):=wm e2
    have rr:=ob1 j ob' hat hc.1
    have ha:v7 ob'=v7 ob:=wy hc.1 ho hc.2
    rw[ha] at rr
    exact q v H1 k1 m1 rv rr
   ·cases e
  | nx ρ =>
   intro σ' er'
   obtain⟨ob',e2,e⟩:=i5 e
   split at e
   ·rename_i hc
    obtain⟨rfl,rfl⟩:D.non=d/\ob'=o':=by simpa using e
    have hat:ρ[j]?=some (some ob'):=wm e2
    have rr:=(HK.of er'.1) j ob' hat hc.1
    have ha:v7 ob'=v7 ob:=wy hc.1 ho hc.2
    rw[ha] at rr
    exact q .non H1 k1 m1 rfl rr
   ·cases e
end
section
variable{X:Cx}{pos:Pos}
theorem Cj{K:N_}{S:List Nat}{H H1 H2:Hp}{ρ:R}{σ τ:L2.St}{i:Nat}{ob o':D}(er:sd K H ρ τ σ)(m:rQ S H)(hat:g4 i ρ=some ob)(ho:vk ob=true)(hn:s9 i ρ=true)(hin:ym S (adr ob)=true)(s1:i9 H H1)(kq:sy (adr ob) H1 H2)(m2:rQ (adr ob) H2)
  (r:Rep K H2 o' (.ref (v7 ob))):sy S H H2/\rQ S H2/\sd K H2 (ρ.set i (some o')) τ σ:=by
 have sub:=CA hin
 have kS:sy S H1 H2:=kq.mono sub
 have m1:=m.same s1
 have mS:rQ S H2:=fun b hb=>by
  by_cases hba:b∈adr ob
  ·exact m2 b hba
  ·have hm:=m1 b hb
   cases e:H1 b with
   | none=>rw[e] at hm;exact hm.elim
   | some u=>rw[kq b u hba e];rw[e] at hm;exact hm
 obtain⟨v,hσ,rv⟩:=(er.mono s1).1.at hat
 rw[lW ho rv] at hσ
 exact⟨(sy.of s1).trans kS,mS,ii (er.mono s1) m1 kS hn hσ r⟩
variable{x:Str}{e:OG}{es:List OG}{F:R->N7 LD}{G:LD->N7 (D×D)}{k j:Nat}{ps:List Str}{p:Pos}
theorem EZ{i:Nat}{F:R->N7 LD}:∀ ρ ds ob,e8 (g4 i) F ρ=some ds->g4 i ρ=some ob->ds[0]?=some ob:=fun ρ ds ob h1 h2=>by
 obtain⟨d,e1,e2⟩:=i5 h1
 obtain⟨r,_,rfl⟩:=rW e2
 rw[h2] at e1;cases e1;rfl
theorem FL{F:R->N7 LD}{G:LD->N7 (D×D)}{S:List Nat}{i C:Nat}{mn:Str}{ρ ρ':R}{σ τ:L2.St}{H:Hp}{d:D}{Q:VK}(er:sd X.K H ρ τ σ)(m:rQ S H)(e:AR i C mn G F S ρ=some (d,ρ'))
  (q:∀v H',sy S H H'->rQ S H'->Rep X.K H' d v->sd X.K H' ρ' τ σ->Q v H'):EE C mn (D2 X.K 0 G) [] E0 (Jv i) (KF X.K F) σ H Q:=by
 obtain⟨ob,hat,z1⟩:=i5 e
 obtain⟨ds,e1,z2⟩:=i5 z1
 obtain⟨r,e2,z3⟩:=i5 z2
 clear e z1 z2
 match ob,z3 with
 | .obj kk a ks es',z3 =>
  have z4:(if kk=C+2/\ks.contains mn=false/\s9 i ρ=true/\ym S (adr (.obj kk a ks es'))=true then some (r.1,ρ.set i (some r.2)) else none)=some (d,ρ'):=z3
  split at z4
  case isFalse=>cases z4
  case isTrue hc =>
  obtain⟨rfl,hk,hn,hin⟩:=hc
  obtain⟨rfl,rfl⟩:r.1=d/\ρ.set i (some r.2)=ρ':=by simpa using z4
  obtain⟨v,hσ,rv⟩:=er.1.at hat
  have rv':=rv
  obtain⟨xs,ev,⟨hl,dx,hH⟩,t⟩:=rv
  subst ev
  refine⟨.ref a,hσ,a,dx,_,rfl,hH,vQ hk,ρ,ds,er.1,e1,fun vs H1 s1 r1=>?_⟩
  show D2 X.K 0 G (.ref a::(vs++[])) H1 Q E0
  rw[OQ]
  refine⟨.obj (C+2) a ks es'::ds,_,r.1,r.2,⟨_,vs,rfl,rv'.mono s1,r1⟩,rfl,rfl,e2,fun v H2 kq m2 rd ro=>?_⟩
  obtain⟨aa,b,c⟩:=Cj er m hat rfl hn hin s1 kq m2 ro
  exact q v H2 aa b rd c
variable{C:Nat}{mn:Str}{apos:Pos}
theorem lO (i:Nat) (c:vI X.K C) (M:xx X.prog X.w X.K X.mg X.base k C mn ps G) (hr:rO k X.A) (ha:SA X (e::es) F) {px pos':Pos} (hN:X.N[i]?=some x:=by rfl) (hv:BS X.env.scope x:=by first | exact Or.inl rfl | exact Or.inr (Or.inl rfl) | exact Or.inr (Or.inr rfl))
    (hd:(x==("__debug__" : Str))=false:=by decide) (hcd:(x==("__classdict__" : Str))=false:=by decide) {pl:Sem Bool}
    (ht:eval (.Call (.Attribute (.Name x px) mn apos) (e::es) [] pos) X.env=(do
      let ov <- eval (.Name x px) X.env
      standAt apos.atName
      let (f,first) <- holding [ov] (getMethod ov mn pl)
      callWith pos f first (backTo pos (starEach (e::es) X.env)) (backToKw pos (keywordEach [] X.env))):=by rfl)
    (hs:swapsWith (.Call (.Attribute (.Name x px) mn apos) (e::es) [] pos) none pos'.line X.env=pure false:=by rfl):MS X (.Expr (.Call (.Attribute (.Name x px) mn apos) (e::es) [] pos) pos') (Dh (AR i C mn G F)):=by
  have hst:=ha.2.2
  rw[O2,Oe] at hst
  have he:=aJ es X.env hst.1
  have hpl:=bQ (pos:=pos) (env:=X.env) hst.2
  obtain⟨f,fd,a,hm,bd⟩:=M.ex
  refine fun S=>(qh (mO (pv i hN hv hd hcd) c hm a hr bd .nil xE ha.1 he hpl ht) hs).imp fun E σ H ⟨ρ,τ,o,er,m,e,q⟩=>?_
  obtain⟨r,e1,rfl⟩:=rW e
  exact FL er m e1 fun v H' kq mS _ er'=>q H' kq mS σ er'
theorem hZ {a:OG} {f:R->OD} {G:LD->OD} (c:vI X.K C) (M:yl X.prog X.w X.K X.mg X.base k C mn ps G) (hr:rO k X.A) (ha:SE X a f) {pl:Sem Bool}
    (ht:eval (.Call (.Attribute a mn apos) [] [] pos) X.env=(do
      let ov <- eval a X.env
      standAt apos.atName
      let (f,first) <- holding [ov] (getMethod ov mn pl)
      callWith pos f first (backTo pos (starEach [] X.env)) (backToKw pos (keywordEach [] X.env))):=by rfl):SE X (.Call (.Attribute a mn apos) [] [] pos) (El C mn G f g5):=by
  obtain⟨fa,fd,F,hm,bd⟩:=M.ex
  refine(k_ ha c hm F hr bd .nil xE ht).imp fun σ H Q ⟨ρ,d,er,e,q⟩=>?_
  obtain⟨ob,e1,z1⟩:=i5 e
  obtain⟨ds,e2,z2⟩:=i5 z1
  cases e2
  refine⟨ρ,ob,er,e1,fun v H1 s1 r1=>?_⟩
  clear e z1
  match ob,z2,r1 with
  | .obj kk a ks es',z2,r1 =>
    have e:(if kk=C+2/\ks.contains mn=false then G [.obj kk a ks es'] else none)=some d:=z2
    split at e
    case isFalse=>cases e
    case isTrue hc =>
    obtain⟨rfl,hk⟩:=hc
    have r1':=r1
    obtain⟨xs,ev,⟨hl,dx,hH⟩,t⟩:=r1
    subst ev
    exact⟨a,dx,_,rfl,hH,vQ hk,⟨[.obj (C+2) a ks es'],d,⟨_,[],rfl,r1',rfl⟩,e,fun u H2 s2 r2=>q u H2 (s1.trans s2) r2⟩⟩
end
theorem Dg{N C:Nat}{f:Str}{g:MU}{ds:LD}{a l:Nat}{ob:D}(h:vO N C f g ds a l=some ob):∃ ρ ks es,g [a] (yo N (.obj (C+2) a [] []::ds))=some (.nx ρ)/\g4 0 ρ=some (.obj (C+2) a ks es)/\n6 es=true/\ks.length<100/\ob=.obj (C+2) a (putD ks es f (.obj 0 l [] [])).1 (putD ks es f (.obj 0 l [] [])).2:=by
 obtain⟨mo,e1,e⟩:=i5 h
 match mo,e1,e with
 | .rt d ρ,e1,e=>cases e
 | .nx ρ,e1,e =>
  have e':(match g4 0 ρ with | some (.obj k b ks es)=>if k=C+2/\b=a/\n6 es=true/\ks.length<100 then some (D.obj k b (putD ks es f (.obj 0 l [] [])).1 (putD ks es f (.obj 0 l [] [])).2) else none | _=>none)=some ob:=e
  cases hat:g4 0 ρ with
  | none=>rw[hat] at e';cases e'
  | some obx =>
   rw[hat] at e'
   cases obx with
   | obj kk b ks es =>
    dsimp only at e'
    split at e'
    case isFalse=>cases e'
    case isTrue hc =>
    obtain⟨rfl,rfl,hn,hk⟩:=hc
    cases e'
    exact⟨ρ,ks,es,e1,hat,hn,hk,rfl⟩
   | _=>cases e'
theorem zW{N C:Nat}{f:Str}{g:MU}{ds:LD}{a l:Nat}{ob:D}(h:vO N C f g ds a l=some ob)(l':Nat):(vO N C f g ds a l').isSome=true:=by
 obtain⟨ρ,ks,es,e1,hat,hn,hk,_⟩:=Dg h
 have:vO N C f g ds a l'=some (.obj (C+2) a (putD ks es f (.obj 0 l' [] [])).1 (putD ks es f (.obj 0 l' [] [])).2):=by
  show(g [a] (yo N (.obj (C+2) a [] []::ds))).bind _=_
  rw[e1,Oc]
  show(match g4 0 ρ with | some (.obj k b ks es)=>if k=C+2/\b=a/\n6 es=true/\ks.length<100 then some (D.obj k b (putD ks es f (.obj 0 l' [] [])).1 (putD ks es f (.obj 0 l' [] [])).2) else none | _=>none)=_
  rw[hat]
  exact Of ⟨rfl,rfl,hn,hk⟩
 rw[this];rfl
theorem jB{es:LD}(h:n6 es=true):es.flatMap vM=[]:=by
 induction es with
 | nil=>rfl
 | cons d es ih =>
  have h':(sk d&&n6 es)=true:=h
  rw[Oe] at h'
  show vM d++es.flatMap vM=[]
  rw[lf h'.1,ih h'.2];rfl
theorem lh{x:Str}{l:Nat}:∀{ks:List Str} {ds:LD},n6 ds=true->(putD ks ds x (.obj 0 l [] [])).2.flatMap vM=[l]
 | [],ds,h=>by
  have:(putD [] ds x (.obj 0 l [] [])).2=ds++[.obj 0 l [] []]:=by cases ds<;>rfl
  rw[this,List.flatMap_append,jB h];rfl
 | k::ks,[],h=>rfl
 | k::ks,c::ds,h=>by
  have h':(sk c&&n6 ds)=true:=h
  rw[Oe] at h'
  by_cases hx:k=x
  ·rw[putD,Of hx]
   show [l]++ds.flatMap vM=[l]
   rw[jB h'.2];rfl
  ·rw[putD,Ov hx]
   show vM c++(putD ks ds x (.obj 0 l [] [])).2.flatMap vM=[l]
   rw[lf h'.1,lh h'.2];rfl
theorem Bi{N C:Nat}{f:Str}{g:MU}{ds:LD}{a l:Nat}{ob:D}(h:vO N C f g ds a l=some ob):adr ob=[a,l]:=by
 obtain⟨ρ,ks,es,_,_,hn,_,rfl⟩:=Dg h
 show a::_=_
 rw[lh hn]
section
variable{X:Cx}{pos:Pos}{C:Nat}{f:Str}
def L3(K:N_)(C i:Nat)(f:Str)(g:MU):TS:=fun E σ H=>∃ ρ τ a ρ' ks es,sd K H ρ τ σ/\rQ [a] H/\g [a] ρ=some (.nx ρ')/\g4 i ρ'=some (.obj (C+2) a ks es)/\n6 es=true/\ks.length<100 /\
 ∀ σ' l H',H l=none->sy [a] H H'->Rep K H' (.obj (C+2) a (putD ks es f (.obj 0 l [] [])).1 (putD ks es f (.obj 0 l [] [])).2) (.ref a)->E.nx σ' H'
def IB(X:Cx)(C i:Nat)(f:Str)(sts:List OE)(g:MU):Prop:=PSs X sts (L3 X.K C i f g)
theorem GQ{x:Str}{px pos' p1:Pos}(i:Nat)(c:vI X.K C)(n:rK X.K C f)(hN:X.N[i]?=some x:=by rfl)(hv:BS X.env.scope x:=by first | exact Or.inl rfl | exact Or.inr (Or.inl rfl) | exact Or.inr (Or.inr rfl))
  (hd:(x==("__debug__" : Str))=false:=by decide) (hcd:(x==("__classdict__" : Str))=false:=by decide) (hs:swapsWith (.List [] p1) (some (.Attribute (.Name x px) f pos')) pos.line X.env=pure false:=by rfl):IB X C i f [.Assign [.Attribute (.Name x px) f pos'] (.List [] p1) pos] vE:=by
 refine dh (t:=L3 X.K C i f vE) ?_
 intro pins s σ H E I ⟨ρ,τ,a,ρ',ks,es,er,m,e,hat,hn,hk,q⟩
 cases e
 obtain⟨v,hσ,rv⟩:=er.1.at hat
 obtain⟨xs,ev,⟨hl,dx,hH⟩,t⟩:=rv
 subst ev
 have hdl:es.length=xs.length:=t.length
 refine sh ((ox (pv i hN hv hd hcd) (lZ (pos:=p1) AD) hs) pins s σ H {E with nx:=fun σ' H'=>∃l,H l=none/\H'=upd (upd H l (.lst [])) a (.ins C dx (uD f (.ref l) (ks.zip xs)))} I ?_) fun fl s1 z=>?_
 ·refine⟨Pg _,fun l hl0=>⟨.ref a,hσ,a,C,dx,ks.zip xs,rfl,?_,c,n,?_,l,hl0,rfl⟩⟩
  ·rw[aq (so hH hl0)];exact hH
  ·rw[List.length_zip];omega
 cases fl with
 | next =>
  obtain⟨σ',H',I',l,hl0,rfl⟩:=z
  have hal:a≠l:=so hH hl0
  have hLl:(upd (upd H l (.lst [])) a (.ins C dx (uD f (.ref l) (ks.zip xs)))) l=some (.lst []):=by rw[aq (Ne.symm hal),av]
  obtain⟨its,nn,rv',hz',I5⟩:=Aq I' hLl
  generalize hH5:upd (upd (upd H l (.lst [])) a (.ins C dx (uD f (.ref l) (ks.zip xs)))) l (.frz {cls:=.type "list",data:=.seq its.toArray nn} (.own 0))=H5 at I5
  have kq:sy [a] H H5:=fun b u nb eb=>by
   have hba:b≠a:=fun z=>nb (by rw[z];exact Od.mpr rfl)
   have hbl:b≠l:=so eb hl0
   subst hH5
   rw[aq hbl,aq hba,aq hbl];exact eb
  have h5l:H5 l=some (.frz {cls:=.type "list",data:=.seq its.toArray nn} (.own 0)):=by subst hH5;exact av
  have h5a:H5 a=some (.ins C dx (uD f (.ref l) (ks.zip xs))):=by subst hH5;rw[aq hal,av]
  obtain⟨vs',p1',p2,p3⟩:=An (K:=X.K) (H':=H5) (x:=f) (e:=.obj 0 l [] []) (y:=.ref l) (ks:=ks) (ds:=es) (vs:=xs) hl hdl
  refine⟨σ',H5,I5,q σ' l H5 hl0 kq ⟨vs',rfl,⟨p2,dx,?_⟩,p3 (i8.kq m kq hn t) ⟨[],rfl,⟨hz',its,nn,rv',h5l⟩,rfl⟩⟩⟩
  rw[h5a,p1']
 | brk=>exact z
 | cont=>exact z
 | ret v=>exact z
theorem AH{st:OE}{sts:List OE}{u g:MU}{i:Nat}(h1:MS X st u)(h2:IB X C i f sts g):IB X C i f (st::sts) (tm u g):=by
 intro pins s σ H E I ⟨ρ,τ,a,ρ',ks,es,er,m,e,hat,hn,hk,q⟩
 obtain⟨o1,e1,e⟩:=i5 e
 cases o1 with
 | rt d ρ2=>cases e
 | nx ρ2 =>
  refine wpAny_execs_cons (sh (h1 [a] pins s σ H {E with nx:=L3 X.K C i f g E} I ⟨ρ,τ,.nx ρ2,er,m,e1,fun H1 k1 m1 σ2 er2=>⟨ρ2,τ,a,ρ',ks,es,er2,m1,e,hat,hn,hk,fun σ' l H' hl kq r=>q σ' l H' ?_ (k1.trans kq) r⟩⟩) fun fl s1 z=>?_)
  ·cases hb:H l with
   | none=>rfl
   | some b =>
    by_cases hla:l=a
    ·have:=m1 a (Od.mpr rfl)
     rw[<- hla,hl] at this
     exact this.elim
    ·rw[k1 l b (fun z=>hla (Od.mp z)) hb] at hl
     cases hl
  cases fl with
  | next =>
   obtain⟨σ',H',I',z⟩:=z
   exact h2 pins s1 σ' H' E I' z
  | brk=>exact z
  | cont=>exact z
  | ret v=>exact z
def JT(K:N_)(n N C:Nat)(f:Str)(g:MU):Sp:=fun vs H Q _=>∃a ds,ds.length+1=n/\i8 K H (.obj (C+2) a [] []::ds) vs/\(∀l,(vO N C f g ds a l).isSome=true)/\∀l ob H',H l=none->vO N C f g ds a l=some ob->sy [a] H H'->Rep K H' ob (.ref a)->Q .non H'
theorem G8{P:Oh}{w:Ot}{K:N_}{mg:Str->N7 N8}{base:OC}{x qual:Str}{st:OE}{fa:N9}{fd:OV}{N ps:List Str}{k:Nat}{g:MU}
  (Fn:sr K x qual st fa fd) (Sc:i4 N ps (e9 st)) 
  (hb:∀(cdv:N8) (A:OJ) (outer:List Env) (s:Oa) (H:Hp) (E:XK),rO k (A.deeper (envOfC qual (e9 st) s.heap.objs.size fa cdv))->IB (uV rV P w K mg base N qual (e9 st) fa cdv A outer s H E).nox C 0 f (rS st) g) :
  k6 P w K mg base rV (k+1) fa fd ps (JT K ps.length N.length C f g):=by
 refine Fn.ok Sc (fun vs H Q E ⟨a,ds,hn,r,_⟩=>by rw[<- hn,<- r.length];rfl) (fun cdv A outer s H vs Q E hr h=>?_)
 obtain⟨a,ds,_,r,hs,q⟩:=h
 have h0:=hs 0
 obtain⟨ob0,e0⟩:=Option.isSome_iff_exists.mp h0
 obtain⟨mo,e1,e⟩:=i5 (show(g [a] (yo N.length (.obj (C+2) a [] []::ds))).bind _=some ob0 from e0)
 match mo,e1,e with
 | .nx ρ',e1,e =>
  have e':(match g4 0 ρ' with | some (.obj k b ks es)=>if k=C+2/\b=a/\n6 es=true/\ks.length<100 then some (D.obj k b (putD ks es f (.obj 0 0 [] [])).1 (putD ks es f (.obj 0 0 [] [])).2) else none | _=>none)=some ob0:=e
  cases hat:g4 0 ρ' with
  | none=>rw[hat] at e';cases e'
  | some obx =>
   rw[hat] at e'
   cases obx with
   | obj kk b ks es =>
    dsimp only at e'
    split at e'
    case isFalse=>cases e'
    case isTrue hc =>
    obtain⟨rfl,rfl,hn,hk⟩:=hc
    obtain⟨v,vr,ev,r1,r2⟩:=r
    have r':i8 K H (.obj (C+2) b [] []::ds) vs:=⟨v,vr,ev,r1,r2⟩
    have ms:rQ [b] H:=fun c hcb=>by
     have:=uN r1 c
     exact this (by simpa [adr] using hcb)
    refine⟨_,hb cdv A outer s H E hr,yo N.length (.obj (C+2) b [] []::ds),_,b,ρ',ks,es,(wn r').t,ms,e1,hat,hn,hk,fun σ' l H' hl kq rr=>?_⟩
    refine q l _ H' hl ?_ kq rr
    show(g [b] (yo N.length (.obj (C+2) b [] []::ds))).bind _=_
    rw[e1,Oc]
    show(match g4 0 ρ' with | some (.obj k b2 ks es)=>if k=C+2/\b2=b/\n6 es=true/\ks.length<100 then some (D.obj k b2 (putD ks es f (.obj 0 l [] [])).1 (putD ks es f (.obj 0 l [] [])).2) else none | _=>none)=_
    rw[hat]
    exact Of ⟨rfl,rfl,hn,hk⟩
   | _=>cases e'
 | .rt d ρ',e1,e=>cases e
theorem pT{x cn:Str}{e:OG}{es:List OG}{sts:List OE}{F:R->N7 LD}{g w:MU}{fi:N9}{fd:OV}{ps:List Str}{k NI:Nat}{px p p1:Pos}(i:Nat)(hN:X.N.Nodup)(M:Mk X.K C fi)(Fn:k6 X.prog X.w X.K X.mg X.base rV k fi fd ps (JT X.K ps.length NI C f g))(bd:Binds X.K fd ps [])
  (hr:rO (k+1) X.A) (hm:X.mg cn=some (.ref C)) (ha:SA X (e::es) F) (h2:Bx X sts w) (hn:(e::es).length+1=ps.length:=by rfl) (hg:Gl X cn:=by rfl) (hdb:(cn==("__debug__" : Str))=false:=by decide) (hix:X.N[i]?=some x:=by rfl) (hx:Loc X.env.scope x:=by first | exact Or.inl rfl | exact Or.inr rfl)
  (hs:swapsWith (.Call (.Name cn p) (e::es) [] p1) (some (.Name x px)) pos.line X.env=pure false:=by rfl) (hf:X.fn x=true\/X.env.scope.names.lookup x=some .local:=by first | exact .inl rfl | exact .inr rfl) :
  SS X (.Assign [.Name x px] (.Call (.Name cn p) (e::es) [] p1) pos::sts) (CH i (vO NI C f g) F w):=by
 have hst:=ha.2.2
 rw[O2,Oe] at hst
 have he:=aJ es X.env hst.1
 have hpl:=bQ (pos:=p1) (env:=X.env) hst.2
 intro pins s σ H E I ⟨ρ,τ,o,er,eo,qq⟩
 obtain⟨ds,r,e1,hi,rfl,hw⟩:=Hm eo
 refine wpAny_execs_cons (sh ((gx (i:=i) hN hix hx (mX M Fn hr hg hm bd .nil xE ha.1 hdb he hpl) hs hf) pins s σ H {E with nx:=fun σ' H'=>∃a l ob,H a=none/\H l=none/\a≠l/\σ'=σ.set i (some (.ref a))/\vO NI C f g ds a l=some ob/\i9 H H'/\Rep X.K H' ob (.ref a)/\rQ [a,l] H' } I ?_) fun fl s1 z=>?_)
 ·refine⟨ρ,ds,er.1,e1,fun vs H1 s1 r1 a dx ha0 hdx hne=>?_⟩
  rw[OQ]
  have sn:i9 H1 (upd (upd H1 dx (.own a)) a (.ins C dx [])):=(bh hdx _).trans (bh (by rw[aq (Ne.symm hne)];exact ha0) _)
  have hHa:H a=none:=by
   cases hb:H a with
   | none=>rfl
   | some u=>rw[s1 a u hb] at ha0;cases ha0
  refine⟨a,ds,by rw[ha.2.1 ρ ds e1];exact hn,⟨.ref a,vs,rfl,⟨[],rfl,⟨rfl,dx,av⟩,rfl⟩,r1.mono sn⟩,fun l=>?_,fun l ob H' hl hmk kq ro=>⟨rfl,a,l,ob,hHa,?_,?_,rfl,hmk,?_,ro,?_⟩⟩
  ·obtain⟨ob,ρ',h1,_⟩:=hw a (a+1) (by omega)
   exact zW h1 l
  ·cases hb:H l with
   | none=>rfl
   | some u=>rw[sn l u (s1 l u hb)] at hl;cases hl
  ·intro z;rw[<- z,av] at hl;cases hl
  ·intro b u hb
   have hba:b≠a:=fun z=>by rw[z,hHa] at hb;cases hb
   exact kq b u (fun z=>hba (Od.mp z)) (sn b u (s1 b u hb))
  ·have:=uN ro
   rw[Bi hmk] at this
   exact this
 cases fl with
 | next =>
  obtain⟨σ',H',I',a,l,ob,hHa,hHl,hal,rfl,hmk,sm,ro,ms⟩:=z
  obtain⟨ob',ρ',h1,h3⟩:=hw a l hal
  rw[hmk] at h1
  cases h1
  refine h2 [a,l] pins s1 _ H' E I' ⟨ρ.set i (some ob),τ,_,(er.mono sm).set hi ro,ms,h3,fun H2 kq m2=>?_⟩
  intro v rv _
  refine qq H2 (fun b u hb=>?_) v rv
  refine kq b u (fun z=>?_) (sm b u hb)
  rcases Oj.mp z with rfl | z
  ·rw[hHa] at hb;cases hb
  ·rw[Od.mp z,hHl] at hb;cases hb
 | brk=>exact z
 | cont=>exact z
 | ret v=>exact z
end
theorem v5(ns:List Int):∀j,j<=ns.length->preSum (fun i=>ns.getD i 0) j=(ns.take j).sum
 | 0,_=>rfl
 | j+1,h=>by
  show preSum (fun i=>ns.getD i 0) j+ns.getD j 0=_
  have hj:j<ns.length:=h
  have e:ns.take (j+1)=ns.take j++[ns[j]]:=by rw[List.take_succ_eq_append_getElem hj]
  rw[v5 ns j (by omega),e,List.sum_append,OU]
  simp[hj]
theorem FK:∀ns:List Int,ns.all (fun n=>decide (0<=n/\n<1099511627776))=true->0<=ns.sum/\ns.sum<=1099511627776*(ns.length:Int)
 | [],_=>⟨by decide,by decide⟩
 | n::ns,h=>by
  rw[O2,Oe] at h
  obtain⟨a,b⟩:=FK ns h.2
  have:=O_ h.1
  rw[List.sum_cons,O9]
  constructor<;>omega
section
variable{X:Cx}
theorem qC{e:OG}{f:R->OD}{p pos:Pos}(hc:X.calm=true)(hm:X.mg "sum" = none)(he:SE X e f)(hg:Gl X "sum":=by rfl)(hst:noStar e=true:=by rfl) :
  SE X (.Call (.Name "sum" p) [e] [] pos) (h9 Gq (e8 f g5)):=by
 intro pins s σ H Q I ⟨ρ,d,er,eq,q⟩
 obtain⟨ds,e1,e2⟩:=i5 eq
 have hst1:=aJ [] X.env hst
 have PAA:=(ac he af hst).1 pos pins s σ H (fun vs H2=>i9 H H2/\i8 X.K H2 ds vs) I ⟨ρ,ds,er,e1,fun vs H2 s2 r2=>⟨s2,r2⟩⟩
 refine Call_ (gy I hg hm boot_sum ?_)
 rw[hst1] at PAA ⊢
 refine Calls.callWith_builtin rfl (Calls.evalArgs_plain ?_)
 refine sh PAA fun us s1 ⟨vs,H1,I1,r1,s01,rp⟩=>?_
 match ds,e2 with
 | [.lst es],e2 =>
  obtain⟨ns,e3,e4⟩:=i5 (show(intsOf es).bind _=some d from e2)
  split at e4
  case isFalse=>cases e4
  case isTrue hn =>
  cases e4
  obtain⟨v,r',rfl,⟨a,xs,rfl,ha,rx⟩,rr⟩:=rp
  cases (show r'=[] from rr)
  obtain⟨u,rfl,ru⟩:=r1.one
  cases (show u=_ from ru)
  obtain⟨_,its,n,rv,hl,eo⟩:=I1.lstM ha
  have hI:=vals_ints e3 rx rv
  have hlen:its.length=ns.length:=IntsAre.length hI
  have hh:=I1.ok.hd hc
  have hL:s1.heap.IsList a its.toArray:=⟨_,eo,rfl,n,rfl⟩
  have hlt:a<s1.heap.objs.size:=Om eo
  refine call_sum_walk (wpAny_pyIter_list hL ?_)
  generalize hIe:s1.heap.objs.size=J at hlt
  have hne:a≠J:=OL hlt
  refine⟨J,[J,a],[J],its.toArray.size,_,_,fun i=>ns.getD i 0,rfl,Walks.list (prog:=X.prog) (w:=X.w) (A:=X.A.in1) (show X.A.in1.handled=none from hh) J a hne its.toArray,?_,fun b hb=>?_,fun i v hv=>?_,fun j hj=>?_,fun h' tk t' k=>?_⟩
  ·refine⟨by rw[<- hIe];exact⟨_,Ox _ rfl,rfl,rfl⟩,hL.at fun o e=>Og _ e⟩
  ·rw[Heap.size_push,hIe]
   rcases Oj.mp hb with rfl | hb
   ·exact Po _
   ·rw[Od.mp hb];exact Nat.lt_succ_of_lt hlt
  ·exact IntsAre.int_at hI i v (by simpa using hv)
  ·have hj':j<ns.length:=by rw[On,hlen] at hj;exact hj
   have hall:=hn.2
   have b1:ns.getD j 0∈ns:=by rw[OU];simp[hj']
   have b2:=O_ (Oz.mp hall _ b1)
   have b3:=FK (ns.take (j+1)) (Oz.mpr fun x hx=>Oz.mp hall x (List.mem_of_mem_take hx))
   rw[v5 ns (j+1) (by omega)]
   have b4:(ns.take (j+1)).length<=1000:=by rw[Pj];omega
   refine⟨⟨by show -(2 ^ 63)<=ns.getD j 0;omega,by show ns.getD j 0<2 ^ 63;omega⟩,by omega,by omega⟩
  ·have hs:preSum (fun i=>ns.getD i 0) its.toArray.size=ns.sum:=by
    rw[On,hlen,v5 ns _ (Oo _),List.take_length]
   rw[hs]
   refine⟨.int ns.sum,H1,I1.kept fun b o eb=>k b o (fun z=>?_) (Og _ eb),⟨_,rfl⟩,q _ H1 s01 rfl⟩
   rw[Od.mp z,<- hIe] at eb
   exact OA (Om eb) (OX _)
end
def EA(K:N_)(C:N9)(m q:Str)(st:OE)(f:N9):Prop:=∃(oc:N8) (od an:N7 N9) (sl:Array (N7 N8)) (kV dc pm cd ct:N8),W.findIn K (.ref C) m=some (some (.ref f))/\W.isFn K (.ref f)=true /\
 K.lookup f=some ⟨oc,od,.func (W.fnOf m q (sR st) (rS st) (e9 st) .none kV dc pm an cd ct),sl⟩/\W.codeIn K cd q=true/\W.keepIn K (.ref f)=true
theorem Gm{K:N_}{C:N9}{m q:Str}{st:OE}{f:N9}(h:EA K C m q st f):∃fd,sr K m q st f fd/\BQ K C m f:=by
 obtain⟨oc,od,an,sl,kV,dc,pm,cd,ct,a,i,l,c,k⟩:=h
 exact⟨_,mt l c k,a,i,k⟩
theorem fn5_mk{K:N_}{C:N9}{m q:Str}{st:OE}{f:N9}{oc:N8}{od an:N7 N9}{sl:Array (N7 N8)}{kV dc pm cd ct:N8}(a:W.findIn K (.ref C) m=some (some (.ref f)))(i:W.isFn K (.ref f)=true)
  (l:K.lookup f=some ⟨oc,od,.func (W.fnOf m q (sR st) (rS st) (e9 st) .none kV dc pm an cd ct),sl⟩) (c:W.codeIn K cd q=true) (k:W.keepIn K (.ref f)=true):EA K C m q st f:=⟨oc,od,an,sl,kV,dc,pm,cd,ct,a,i,l,c,k⟩
end HW
namespace HW
open PySem
def yr(A:List Nat):OD->Bool
 | some (.obj _ a _ es)=>(a::es.flatMap vM).all (fun x=>!A.contains x)&&es.all okN
 | some d=>sk d
 | none=>true
def v6(i:Nat)(A:List Nat)(ρ:R):Bool:=(ρ.set i none).all (yr A)
def vR(i:Nat)(G:LD->N7 (D×D))(F:R->N7 LD)(S:List Nat)(ρ:R):N7 (D×R):=(g4 i ρ).bind fun ob=>(F ρ).bind fun ds=>(G ds).bind fun r =>
 if vk ob=true/\v6 i (adr ob) ρ=true/\ym S (adr ob)=true then some (r.1,ρ.set i (some r.2)) else none
def IF(i j:Nat)(mk:LD->Nat->Nat->OD)(ds ds':LD)(w:MU)(ρ:R)(r:D):Prop:=∀a l a' l',[a,l,a',l'].Nodup->∃ob ob' ρ',mk ds a l=some ob/\mk ds' a' l'=some ob'/\w [a,l,a',l'] ((ρ.set i (some ob)).set j (some ob'))=some (.rt r ρ')
theorem IF.uniq{i j:Nat}{mk:LD->Nat->Nat->OD}{ds ds':LD}{w:MU}{ρ:R}{r r':D}(h:IF i j mk ds ds' w ρ r)(h':IF i j mk ds ds' w ρ r'):r=r':=by
 obtain⟨ob,ob',ρ1,e1,e2,e3⟩:=h 0 1 2 3 (by decide)
 obtain⟨pb,pb',ρ2,f1,f2,f3⟩:=h' 0 1 2 3 (by decide)
 rw[e1] at f1;cases f1
 rw[e2] at f2;cases f2
 rw[e3] at f3
 exact(MO.rt.inj (Ow f3)).1
def DU(j i C:Nat)(x:Str):MU:=fun S ρ=>match g4 i ρ with
 | some (.obj k a ks ds)=>match yV ks ds x with
  | some (.obj 0 l ls es)=>match es.getLast? with
   | some d=>if k=C+2/\i≠j/\j<ρ.length/\s9 i ρ=true/\ym S (a::ds.flatMap vM)=true/\n6 es=true/\n6 (putD ks ds x .non).2=true/\S.contains l=true then some (.nx ((ρ.set i (some (.obj k a (putD ks ds x (.obj 0 l ls es.dropLast)).1 (putD ks ds x (.obj 0 l ls es.dropLast)).2))).set j (some d))) else none
   | none=>none
  | _=>none
 | _=>none
mutual
def nof:D->Bool
 | .tup xs=>nofs xs
 | .lst xs=>nofs xs
 | .fro _=>false
 | .obj ..=>false
 | .rf ..=>false
 | _=>true
def nofs:LD->Bool
 | []=>true
 | x::xs=>nof x&&nofs xs
end
def vW(i C:Nat)(x:Str)(F:R->OD):R->OD:=fun ρ=>match g4 i ρ with
 | some (.obj k a ks ds)=>match yV ks ds x with
  | some (.obj 0 l ls es)=>if k=C+2/\s9 i ρ=true/\n6 es=true/\n6 (putD ks ds x .non).2=true then (F (ρ.set i (some (.obj k a (putD ks ds x (.fro es)).1 (putD ks ds x (.fro es)).2)))).bind fun d=>if nof d then some d else none else none
  | _=>none
 | _=>none
def C_(f:R->OD):R->N7 LD:=fun ρ=>(f ρ).bind fun x=>match x with
 | .fro es=>some es
 | _=>none
end HW
namespace HW
open PySem PySem.Spec PyProof.Rows L2
section
variable{K:N_}{H H' H1 H2:Hp}{A S:List Nat}
theorem qx(m:rQ A H)(s:sy A H H'):∀{d:D} {v:V},okN d=true->(∀b∈vM d,b∉A)->Rep K H d v->Rep K H' d v:=by
 intro d v h hA r
 match d,h,hA,r with
 | .obj 0 l ls es,h,hA,⟨xs,e,⟨z,its,n,rv,q⟩,t⟩=>exact⟨xs,e,⟨z,its,n,rv,s _ _ (hA l (Od.mpr rfl)) q⟩,i8.kq m s h t⟩
 | .obj (k+1) l ls es,h,_,_=>cases (show sk (.obj (k+1) l ls es)=true from h)
 | .rf a,h,_,_=>cases (show sk (.rf a)=true from h)
 | .non,_,_,r=>exact r
 | .bl _,_,_,r=>exact r
 | .int _,_,_,r=>exact r
 | .str _,_,_,r=>exact r
 | .tup ds,h,_,r=>exact Rep.kq m s (d:=.tup ds) h r
 | .lst ds,h,_,r=>exact Rep.kq m s (d:=.lst ds) h r
 | .fro ds,h,_,r=>exact Rep.kq m s (d:=.fro ds) h r
theorem mH(m:rQ A H)(s:sy A H H'):∀{ds:LD} {vs:List V},ds.all okN=true->(∀b∈ds.flatMap vM,b∉A)->i8 K H ds vs->i8 K H' ds vs
 | [],_,_,_,r=>r
 | d::ds,_,h,hA,r=>by
  rw[O2,Oe] at h
  rw[List.flatMap_cons] at hA
  obtain⟨v,vr,e,r1,r2⟩:=r
  exact⟨v,vr,e,qx m s h.1 (fun b hb=>hA b (O3 _ hb)) r1,mH m s h.2 (fun b hb=>hA b (OM _ hb)) r2⟩
theorem Rep.sep(m:rQ A H)(s:sy A H H'):∀{d:D} {v:V},yr A (some d)=true->Rep K H d v->Rep K H' d v:=by
 intro d v h r
 cases d with
 | obj k a ks es =>
  have h':((a::es.flatMap vM).all (fun x=>!A.contains x)&&es.all okN)=true:=h
  rw[Oe] at h'
  have hA:∀b∈a::es.flatMap vM,b∉A:=fun b hb z=>by
   have:=Oz.mp h'.1 b hb
   simp at this
   exact this z
  obtain⟨xs,e,q,t⟩:=r
  exact⟨xs,e,q.to fun u e' _=>s a u (hA a (.head _)) e',mH m s h'.2 (fun b hb=>hA b (.tail _ hb)) t⟩
 | _=>exact Rep.kq m s h r
theorem pZ{ρ:R}{σ:L2.St}{i:Nat}{ob':D}{v:V}(er:se K H ρ σ)(m:rQ A H)(s:sy A H H')(hn:v6 i A ρ=true)(hv:σ[i]?=some (some v))(r:Rep K H' ob' v):se K H' (ρ.set i (some ob')) σ:=by
 refine⟨by rw[Pk];exact er.1,fun j d h=>?_⟩
 by_cases hj:j=i
 ·subst hj
  have hl:j<ρ.length:=by have:=(OI.mp h).1;simpa using this
  rw[O5 hl] at h
  cases h
  exact⟨v,hv,r⟩
 ·rw[O8 (Ne.symm hj)] at h
  obtain⟨u,h1,h2⟩:=er.2 j d h
  have hd:yr A (some d)=true:=Oz.mp hn _ (O7 (i:=j) (by rw[O8 (Ne.symm hj)];exact h))
  exact⟨u,h1,Rep.sep m s hd h2⟩
theorem Ab{ρ:R}{σ τ:L2.St}{i:Nat}{ob o':D}(er:sd K H ρ τ σ)(m:rQ S H)(hat:g4 i ρ=some ob)(ho:vk ob=true)(hn:v6 i (adr ob) ρ=true)(hin:ym S (adr ob)=true)(s1:i9 H H1)(kq:sy (adr ob) H1 H2)(m2:rQ (adr ob) H2)
  (r:Rep K H2 o' (.ref (v7 ob))):sy S H H2/\rQ S H2/\sd K H2 (ρ.set i (some o')) τ σ:=by
 have sub:=CA hin
 have m1:=m.same s1
 have mS:rQ S H2:=fun b hb=>by
  by_cases hba:b∈adr ob
  ·exact m2 b hba
  ·have hm:=m1 b hb
   cases e:H1 b with
   | none=>rw[e] at hm;exact hm.elim
   | some u=>rw[kq b u hba e];rw[e] at hm;exact hm
 obtain⟨v,hσ,rv⟩:=(er.mono s1).1.at hat
 have mo:=uN rv
 rw[lW ho rv] at hσ
 exact⟨(sy.of s1).trans (kq.mono sub),mS,pZ (er.mono s1).1 mo kq hn hσ r,by rw[Pk];exact er.2⟩
end
section
variable{X:Cx}{pos:Pos}
theorem pi{F:R->N7 LD}{G:LD->N7 (D×D)}{S:List Nat}{i j:Nat}{ρ ρ':R}{σ τ:L2.St}{H:Hp}{d:D}{Q:VK}(hF:∀ ρ ds ob,F ρ=some ds->g4 i ρ=some ob->ds[j]?=some ob)(er:sd X.K H ρ τ σ)(m:rQ S H)(e:vR i G F S ρ=some (d,ρ'))
  (q:∀v H',sy S H H'->rQ S H'->Rep X.K H' d v->sd X.K H' ρ' τ σ->Q v H'):H8 (D2 X.K j G) [] E0 (KF X.K F) σ H Q:=by
 obtain⟨ob,hat,e⟩:=i5 e
 obtain⟨ds,e1,e⟩:=i5 e
 obtain⟨r,e2,e⟩:=i5 e
 split at e
 case isFalse=>cases e
 case isTrue hc =>
 obtain⟨ho,hn,hin⟩:=hc
 obtain⟨rfl,rfl⟩:r.1=d/\ρ.set i (some r.2)=ρ':=by simpa using e
 refine⟨ρ,ds,er.1,e1,fun vs H1 s1 r1=>?_⟩
 show D2 X.K j G (vs++[]) H1 Q E0
 rw[OQ]
 refine⟨ds,ob,r.1,r.2,r1,hF ρ ds ob e1 hat,ho,e2,fun v H2 kq m2 rd ro=>?_⟩
 obtain⟨a,b,c⟩:=Ab er m hat ho hn hin s1 kq m2 ro
 exact q v H2 a b rd c
variable{x:Str}{e:OG}{es:List OG}{F:R->N7 LD}{G:LD->N7 (D×D)}{k j:Nat}{ps:List Str}{p:Pos}
variable{C:Nat}{mn:Str}{apos:Pos}
theorem oq{st:OE}:MS X st (fun _ _=>none):=fun S _ _ _ _ _ _ ⟨_,_,_,_,_,e,_⟩=>by cases e
end
section
variable{X:Cx}{pins pins0:List (N9×Obj)}{σ σ0:L2.St}{H H0:Hp}{s s0:Oa}{l:N9}{its:List N8}{n:Nat}{xs:List V}
theorem Mn(I:L2.Inv X pins σ H s)(h:H l=some (.frz {cls:=.type "list",data:=.seq its.toArray n} (.own 0)))(r:l4 xs its)(z:xs.length<=sizeLine):L2.Inv X pins σ (upd H l (.frz {cls:=.type "list",data:=.seq its.toArray n} (.lst xs))) s:=by
 have e:=(I.hok l _ h).1
 exact I.write (t':=s.toks) (h':=s.heap) (o:=.frz {cls:=.type "list",data:=.seq its.toArray n} (.lst xs)) (x:=l) (e:=l) (by rw[h];trivial) (.inl rfl) (fun _ _ _ q=>q) ⟨_,e⟩ ⟨e,z,its,n,r,e⟩
theorem JH{o:Obj}(I0:L2.Inv X pins0 σ0 H0 s0)(h0:H0 l=some (.frz o (.own 0)))(I:L2.Inv X pins σ H s)(h:H l=some (.frz o (.lst xs))):L2.Inv X pins σ (upd H l (.frz o (.own 0))) s:=by
 have e:=(I.hok l _ h).1
 have ne:∀{b:N9},H b=none->b≠l:=fun {b} hb z=>by rw[z,h] at hb;cases hb
 refine⟨I.ok,I.os,I.bare,⟨I.base.keep,I.base.slot,fun b ob q nn hx=>?_,I.base.there,fun b ys q=>?_,fun b ob u ny q=>?_,fun b ps d q=>?_⟩,I.loc,I.cell,?_,fun y c hc=>?_,fun p hp=>?_,fun b u q=>?_,I.len⟩
 ·have z:=I.base.free b ob q nn hx
  rw[aq (ne z)];exact z
 ·have z:=I.base.tups b ys q
  rw[aq fun w=>by rw[w,h] at z;cases z];exact z
 ·have z:=I.base.frzs b ob u ny q
  rw[aq fun w=>?_]
  ·exact z
  ·have z0:=I0.base.frzs b ob u ny q
   rw[w,h0] at z0
   cases z0
   exact ny 0 rfl
 ·have z:=I.base.tbls b ps d q
  rw[aq fun w=>by rw[w,h] at z;cases z];exact z
 ·rw[aq (ne I.free)];exact I.free
 ·rw[aq (ne (I.freeC y c hc))];exact I.freeC y c hc
 ·obtain⟨p1,p2,p3⟩:=I.pin p hp
  exact⟨p1,by rw[aq (ne p2)];exact p2,p3⟩
 ·by_cases hb:b=l
  ·subst hb
   rw[av] at q
   cases q
   exact⟨e,_,e⟩
  ·rw[aq hb] at q
   refine(I.hok b u q).stay (fun c v _ r=>r) (fun c r=>?_) (fun c ys r=>?_) fun c _ _ r=>?_
   ·rw[aq fun w=>by rw[w,h] at r;cases r];exact r
   ·rw[aq fun w=>by rw[w,h] at r;cases r];exact r
   ·rw[aq fun w=>by rw[w,h] at r;cases r];exact r
end
section
variable{K:N_}{H:Hp}{l:N9}{o:Obj}{ys:List V}{u:HO}
mutual
theorem Rep.nof(h:H l=some (.frz o (.lst ys))):∀{d:D} {v:V},nof d=true->Rep K H d v->Rep K (upd H l u) d v
 | .non,_,_,r=>r
 | .bl _,_,_,r=>r
 | .int _,_,_,r=>r
 | .str _,_,_,r=>r
 | .tup ds,_,hn,r=>by
  obtain⟨a,xs,e,q,t⟩:=r
  refine⟨a,xs,e,?_,i8.nof h hn t⟩
  rcases q with (q | ⟨o',q⟩) | q
  ·exact .inl (.inl (by rw[aq fun w=>by rw[w,h] at q;cases q];exact q))
  ·exact .inl (.inr ⟨o',by rw[aq fun w=>by rw[w,h] at q;cases q];exact q⟩)
  ·exact .inr q
 | .lst ds,_,hn,r=>by
  obtain⟨a,xs,e,q,t⟩:=r
  exact⟨a,xs,e,by rw[aq fun w=>by rw[w,h] at q;cases q];exact q,i8.nof h hn t⟩
 | .fro _,_,hn,_=>by cases hn
 | .obj ..,_,hn,_=>by cases hn
 | .rf ..,_,hn,_=>by cases hn
theorem i8.nof(h:H l=some (.frz o (.lst ys))):∀{ds:LD} {vs:List V},nofs ds=true->i8 K H ds vs->i8 K (upd H l u) ds vs
 | [],_,_,r=>r
 | d::ds,_,hn,r=>by
  have hn':(HW.nof d&&nofs ds)=true:=hn
  rw[Oe] at hn'
  obtain⟨v,vr,e,r1,r2⟩:=r
  exact⟨v,vr,e,Rep.nof h hn'.1 r1,i8.nof h hn'.2 r2⟩
end
theorem i8.dropLast:∀{ds:LD} {vs:List V},i8 K H ds vs->i8 K H ds.dropLast vs.dropLast
 | [],_,r=>by cases (show _=[] from r);rfl
 | [d],_,r=>by
  obtain⟨v,vr,rfl,_,r2⟩:=r
  cases (show vr=[] from r2);rfl
 | d::d'::ds,_,r=>by
  obtain⟨v,vr,rfl,r1,r2⟩:=r
  obtain⟨v',vr',e,r3,r4⟩:=r2
  subst e
  exact⟨v,_,rfl,r1,i8.dropLast (ds:=d'::ds) (vs:=v'::vr') ⟨v',vr',rfl,r3,r4⟩⟩
theorem jy:∀{ds:LD},n6 ds=true->n6 ds.dropLast=true
 | [],h=>h
 | [d],_=>rfl
 | d::d'::ds,h=>by
  have h':(sk d&&n6 (d'::ds))=true:=h
  rw[Oe] at h'
  show(sk d&&n6 (d'::ds).dropLast)=true
  rw[h'.1,jy h'.2];rfl
theorem ll{d:D}:∀{ds:LD},n6 ds=true->d∈ds->sk d=true
 | e::ds,h,hd=>by
  have h':(sk e&&n6 ds)=true:=h
  rw[Oe] at h'
  rcases Oj.mp hd with rfl | hd
  ·exact h'.1
  ·exact ll h'.2 hd
end
section
variable{X:Cx}{pos:Pos}
theorem qy{tg a:OG}{f:R->OD}(ha:SE X a f):SI X tg a (C_ f):=(oC ha).imp fun σ H W ⟨ρ,ds,er,e,q⟩=>by
 obtain⟨x,e1,e⟩:=i5 e
 refine⟨ρ,x,er,e1,fun v H1 s1 r1=>?_⟩
 cases x with
 | fro xs =>
  cases e
  obtain⟨a,vs,ev,hq,t⟩:=r1
  exact .inl ⟨a,ev,.inl ⟨⟨vs,hq⟩,q _ H1 s1 (gQ hq t)⟩⟩
 | _=>cases e
theorem jR{e:OG}{F:R->OD}{x:Str}(i C:Nat)(h:SE X e F):SE X e (vW i C x F):=by
 intro pins s σ H Q I ⟨ρ,d,er,e0,q⟩
 unfold vW at e0
 split at e0
 case h_2=>cases e0
 case h_1 k a ks ds hat =>
 split at e0
 case h_2=>cases e0
 case h_1 l ls es hkey =>
 split at e0
 case isFalse=>cases e0
 case isTrue hc =>
 obtain⟨rfl,h2,h5,h6⟩:=hc
 obtain⟨d',eF,e0⟩:=i5 e0
 split at e0
 case isFalse=>cases e0
 case isTrue hnf =>
 cases e0
 obtain⟨v,hσ,rv⟩:=er.at hat
 obtain⟨xs,ev,⟨hl,dx,hH⟩,t⟩:=rv
 subst ev
 obtain⟨y,hlk,ry⟩:=xk hkey t hl
 obtain⟨ys,ey,⟨hz,its,nn,rv,hL⟩,ty⟩:=ry
 subst ey
 have I1:=Mn I hL rv hz
 have k01:sy [l] H (upd H l (.frz {cls:=.type "list",data:=.seq its.toArray nn} (.lst ys))):=fun b u nb eb=>by rw[aq fun z=>nb (by rw[z];exact Od.mpr rfl)];exact eb
 have ml:rQ [l] H:=fun b hb=>by rw[Od.mp hb,hL];trivial
 have hla:a≠l:=fun z=>by rw[z,hL] at hH;cases hH
 have kq:∀{d:D} {v:V},sk d=true->Rep X.K H d v->Rep X.K (upd H l (.frz {cls:=.type "list",data:=.seq its.toArray nn} (.lst ys))) d v:=fun hn r=>Rep.kq ml k01 hn r
 have rf:Rep X.K (upd H l (.frz {cls:=.type "list",data:=.seq its.toArray nn} (.lst ys))) (.fro es) (.ref l):=⟨l,ys,rfl,.inl (.inr ⟨_,av⟩),i8.kq ml k01 h5 ty⟩
 obtain⟨g1,g2⟩:=fS hkey hlk t hl h6 kq rf
 have rob:Rep X.K (upd H l (.frz {cls:=.type "list",data:=.seq its.toArray nn} (.lst ys))) (.obj (C+2) a (putD ks ds x (.fro es)).1 (putD ks ds x (.fro es)).2) (.ref a):=by
  rw[g1]
  exact⟨xs,rfl,⟨hl,dx,by rw[aq hla];exact hH⟩,g2⟩
 refine sh (h pins s σ _ (fun v H2=>i9 (upd H l (.frz {cls:=.type "list",data:=.seq its.toArray nn} (.lst ys))) H2/\Rep X.K H2 d v) I1 ⟨_,d,nV er ml k01 h2 hσ rob,eF,fun v H' s1 r1=>⟨s1,r1⟩⟩) fun u s1 ⟨v,H2,I2,ru,s12,rd⟩=>?_
 have hL2:=s12 _ _ av
 refine⟨v,_,JH I hL I2 hL2,ru,q v _ (fun b w hb=>?_) (Rep.nof hL2 hnf rd)⟩
 by_cases hbl:b=l
 ·subst hbl
  rw[hL] at hb
  cases hb
  exact av
 ·rw[aq hbl]
  exact s12 b w (by rw[aq hbl];exact hb)
theorem ou{x y f:Str}{C:Nat}{px py pf ap cp:Pos}(j i:Nat)(hNd:X.N.Nodup)(c:vI X.K C)(n:rK X.K C f)(hN:X.N[i]?=some x:=by rfl)(hv:BS X.env.scope x:=by first | exact Or.inl rfl | exact Or.inr (Or.inl rfl) | exact Or.inr (Or.inr rfl))(hj:X.N[j]?=some y:=by rfl)(hy:Loc X.env.scope y:=by first | exact Or.inl rfl | exact Or.inr rfl)
  (hd:(x==("__debug__" : Str))=false:=by decide) (hcd:(x==("__classdict__" : Str))=false:=by decide) (hb1:attributeBase (.Name x px) f X.env (eval (.Name x px) X.env)=eval (.Name x px) X.env:=by rfl)
  (hbase:attributeBase (.Attribute (.Name x px) f pf) "pop" X.env (eval (.Attribute (.Name x px) f pf) X.env)=eval (.Attribute (.Name x px) f pf) X.env:=by rfl)
  (hline:(ap.endLine==cp.line)=true:=by rfl) (hs:swapsWith (.Call (.Attribute (.Attribute (.Name x px) f pf) "pop" ap) [] [] cp) (some (.Name y py)) pos.line X.env=pure false:=by rfl) (hf:X.fn y=true\/X.env.scope.names.lookup y=some .local:=by first | exact .inl rfl | exact .inr rfl) :
  MS X (.Assign [.Name y py] (.Call (.Attribute (.Attribute (.Name x px) f pf) "pop" ap) [] [] cp) pos) (DU j i C f):=by
 intro S pins s σ H E I ⟨ρ,τ,o,er,m,e,q⟩
 unfold DU at e
 split at e
 case h_2=>cases e
 case h_1 k a ks ds hat =>
 split at e
 case h_2=>cases e
 case h_1 l ls es hkey =>
 split at e
 case h_2=>cases e
 case h_1 d hlast =>
 split at e
 case isFalse=>cases e
 case isTrue hc =>
 obtain⟨rfl,hij,hjl,h2,h3,h5,h6,h7⟩:=hc
 cases e
 obtain⟨v,hσ,rv⟩:=er.1.at hat
 obtain⟨xs,ev,⟨hl,dx,hH⟩,t⟩:=rv
 subst ev
 obtain⟨y0,hlk,ry⟩:=xk hkey t hl
 obtain⟨ys,ey,⟨hz,its,nn,rv,hL⟩,ty⟩:=ry
 subst ey
 have hlen:es.length=ys.length:=ty.length
 rw[List.getLast?_eq_getElem?] at hlast
 obtain⟨w,hw,rw1⟩:=ty.get hlast
 rw[hlen] at hw
 refine wpAny_Assign_Name (sh (Q:=EP X pins σ fun v H5=>v=w/\sy S H H5/\rQ S H5/\Rep X.K H5 d w/\sd X.K H5 (ρ.set i (some (.obj (C+2) a (putD ks ds f (.obj 0 l ls es.dropLast)).1 (putD ks ds f (.obj 0 l ls es.dropLast)).2))) τ σ) ?_ fun v s1 ⟨y',H5,I5,r5,ey,kq,mS,rd,er5⟩=>?_) hs
 ·refine wpAny_Call_method_late hbase rfl hline rfl (sh ((lH (pv i (pos:=px) hN hv hd hcd) hb1) pins s σ H (fun v H1=>v=.ref l/\H1=H) I ⟨.ref a,hσ,a,C,dx,_,.ref l,rfl,hH,c,n,hlk,rfl,rfl⟩) fun v s1 ⟨y',H1,I1,r1,ey,eH⟩=>?_)
  subst ey eH
  cases (show v=_ from r1)
  have eo:=(I1.hok l _ hL).1
  refine⟨"list","list.pop",PySem.F.plainAttrs_list,PySem.F.slot_list_pop,PySem.F.type_list_pop,⟨_,eo,rfl⟩,fun b eb=>?_,?_⟩
  ·cases eb
   exact⟨_,eo,rfl⟩
  refine Calls.callWith_builtin rfl (evalArgs_nil3 ?_)
  have I3:=Dt I1 hL rv hz
  refine sh (qQ pins s1 σ (upd H1 l (.lst ys)) (.ref l) [] (.ref l) [] (fun v H3=>v=w/\H3=upd (upd H1 l (.lst ys)) l (.lst ys.dropLast)) I3 rfl .nil ⟨l,ys,w,rfl,rfl,av,hw,rfl,rfl⟩) fun v s3 ⟨v',H3,I4,r4,e4,e3⟩=>?_
  subst e3 e4
  obtain⟨its',n',rv',hz',I5⟩:=Aq I4 av
  generalize hH5:upd (upd (upd H1 l (.lst ys)) l (.lst ys.dropLast)) l (.frz {cls:=.type "list",data:=.seq its'.toArray n' } (.own 0))=H5 at I5
  have k25:sy [l] H1 H5:=fun b u nb eb=>by
   have hbl:b≠l:=fun z=>nb (by rw[z];exact Od.mpr rfl)
   subst hH5
   rw[aq hbl,aq hbl,aq hbl];exact eb
  have hL5:H5 l=some (.frz {cls:=.type "list",data:=.seq its'.toArray n' } (.own 0)):=by subst hH5;exact av
  have ml:rQ [l] H1:=fun b hb=>by rw[Od.mp hb,hL];trivial
  have hla:a≠l:=fun z=>by rw[z,hL] at hH;cases hH
  have hH5a:H5 a=some (.ins C dx (ks.zip xs)):=k25 a _ (fun z=>hla (Od.mp z)) hH
  have kq:∀{d:D} {v:V},sk d=true->Rep X.K H1 d v->Rep X.K H5 d v:=fun hn r=>Rep.kq ml k25 hn r
  have rl:Rep X.K H5 (.obj 0 l ls es.dropLast) (.ref l):=⟨ys.dropLast,rfl,⟨hz',its',n',rv',hL5⟩,i8.kq ml k25 (jy h5) ty.dropLast⟩
  obtain⟨g1,g2⟩:=fS hkey hlk t hl h6 kq rl
  have rob:Rep X.K H5 (.obj (C+2) a (putD ks ds f (.obj 0 l ls es.dropLast)).1 (putD ks ds f (.obj 0 l ls es.dropLast)).2) (.ref a):=by
   rw[g1]
   exact⟨xs,rfl,⟨hl,dx,hH5a⟩,g2⟩
  have hlS:l∈S:=by simpa using h7
  have kqS:sy S H1 H5:=k25.mono fun b hb=>by rw[Od.mp hb];exact hlS
  have mS:rQ S H5:=fun b hb=>by
   by_cases hbl:b=l
   ·rw[hbl,hL5];trivial
   ·have hm:=m b hb
    cases hb2:H1 b with
    | none=>rw[hb2] at hm;exact hm.elim
    | some u=>rw[k25 b u (fun z=>hbl (Od.mp z)) hb2];rw[hb2] at hm;exact hm
  exact⟨_,H5,I5,r4,rfl,kqS,mS,kq (ll h5 (O7 hlast)) rw1,ii er m kqS h2 hσ rob⟩
 ·subst ey
  refine zf I5 hNd hj hy r5 (fun s2 I6=>⟨_,H5,I6,q H5 kq mS _ (er5.set (by simpa using hjl) rd)⟩) hf
end
end HW
namespace HW
open PySem
def BL(i:Nat)(mk:LD->Nat->Nat->OD)(ds:LD)(w:MU)(S:List Nat)(ρ:R)(r:D):Prop:=∀a l,a≠l->a∉S->l∉S->∃ob ρ',mk ds a l=some ob/\w (a::l::S) (ρ.set i (some ob))=some (.rt r ρ')
theorem FV(S:List Nat):∃a l:Nat,a≠l/\a∉S/\l∉S:=by
 have h:∀S:List Nat,∃n,∀x∈S,x<n:=fun S=>by
  induction S with
  | nil=>exact⟨0,fun _ h=>by cases h⟩
  | cons y S ih =>
   obtain⟨n,hn⟩:=ih
   refine⟨n+y+1,fun x hx=>?_⟩
   rcases Oj.mp hx with rfl | hx
   ·omega
   ·have:=hn x hx;omega
 obtain⟨n,hn⟩:=h S
 exact⟨n,n+1,by omega,fun z=>by have:=hn _ z;omega,fun z=>by have:=hn _ z;omega⟩
theorem BL.uniq{i:Nat}{mk:LD->Nat->Nat->OD}{ds:LD}{w:MU}{S:List Nat}{ρ:R}{r r':D}(h:BL i mk ds w S ρ r)(h':BL i mk ds w S ρ r'):r=r':=by
 obtain⟨a,l,h1,h2,h3⟩:=FV S
 obtain⟨ob,ρ1,e1,e2⟩:=h a l h1 h2 h3
 obtain⟨pb,ρ2,f1,f2⟩:=h' a l h1 h2 h3
 rw[e1] at f1;cases f1
 rw[e2] at f2
 exact(MO.rt.inj (Ow f2)).1
def Iw(i:Nat)(mk:LD->Nat->Nat->OD)(F:R->N7 LD)(w:MU):MU:=fun S ρ=>(F ρ).bind fun ds=>open Classical in
 if h:i<ρ.length/\∃r,BL i mk ds w S ρ r then some (.rt h.2.choose []) else none
theorem EV{i:Nat}{mk:LD->Nat->Nat->OD}{F:R->N7 LD}{w:MU}{S:List Nat}{ρ:R}{ds:LD}{r:D}(h1:F ρ=some ds)(hi:i<ρ.length)(h2:BL i mk ds w S ρ r):Iw i mk F w S ρ=some (.rt r []):=by
 unfold Iw
 have q:i<ρ.length/\∃r,BL i mk ds w S ρ r:=⟨hi,r,h2⟩
 rw[h1,Oc,dif_pos q]
 exact congrArg (fun x=>some (MO.rt x [])) (BL.uniq q.2.choose_spec h2)
theorem Ie{i:Nat}{mk:LD->Nat->Nat->OD}{F:R->N7 LD}{w:MU}{S:List Nat}{ρ:R}{o:MO}(h:Iw i mk F w S ρ=some o):∃ds r,F ρ=some ds/\i<ρ.length/\o=.rt r []/\BL i mk ds w S ρ r:=by
 unfold Iw at h
 cases e:F ρ with
 | none=>rw[e] at h;cases h
 | some ds =>
  rw[e,Oc] at h
  split at h
  ·rename_i q
   cases h
   exact⟨ds,_,rfl,q.1,rfl,q.2.choose_spec⟩
  ·cases h
end HW
namespace HW
open PySem PySem.Spec PyProof.Rows L2
section
variable{X:Cx}{pos:Pos}{C:Nat}{f:Str}
theorem FG{g:MU}{F:R->N7 LD}{ps:List Str}{NI:Nat}{ρ:R}{σ:L2.St}{H:Hp}{ds:LD}{Q:VK}(hn:ds.length+1=ps.length)(er:se X.K H ρ σ)(e1:F ρ=some ds)(hw:∀a,H a=none->∃l ob,vO NI C f g ds a l=some ob)
  (q:∀a l ob H',H a=none->H l=none->a≠l->vO NI C f g ds a l=some ob->i9 H H'->Rep X.K H' ob (.ref a)->rQ [a,l] H'->Q (.ref a) H'):HB C (JT X.K ps.length NI C f g) [] E0 (KF X.K F) σ H Q:=by
 refine⟨ρ,ds,er,e1,fun vs H1 s1 r1 a dx ha0 hdx hne=>?_⟩
 rw[OQ]
 have sn:i9 H1 (upd (upd H1 dx (.own a)) a (.ins C dx [])):=(bh hdx _).trans (bh (by rw[aq (Ne.symm hne)];exact ha0) _)
 have hHa:H a=none:=by
  cases hb:H a with
  | none=>rfl
  | some u=>rw[s1 a u hb] at ha0;cases ha0
 refine⟨a,ds,hn,⟨.ref a,vs,rfl,⟨[],rfl,⟨rfl,dx,av⟩,rfl⟩,r1.mono sn⟩,fun l=>?_,fun l ob H' hl hmk kq ro=>⟨rfl,q a l ob H' hHa ?_ ?_ hmk ?_ ro ?_⟩⟩
 ·obtain⟨_,ob,h1⟩:=hw a hHa
  exact zW h1 l
 ·cases hb:H l with
  | none=>rfl
  | some u=>rw[sn l u (s1 l u hb)] at hl;cases hl
 ·intro z;rw[<- z,av] at hl;cases hl
 ·intro b u hb
  have hba:b≠a:=fun z=>by rw[z,hHa] at hb;cases hb
  exact kq b u (fun z=>hba (Od.mp z)) (sn b u (s1 b u hb))
 ·have:=uN ro
  rw[Bi hmk] at this
  exact this
theorem lg{x cn:Str}{e:OG}{es:List OG}{sts:List OE}{F:R->N7 LD}{g w:MU}{fi:N9}{fd:OV}{ps:List Str}{k NI:Nat}{px p p1:Pos}(i:Nat)(hN:X.N.Nodup)(M:Mk X.K C fi)(Fn:k6 X.prog X.w X.K X.mg X.base rV k fi fd ps (JT X.K ps.length NI C f g))(bd:Binds X.K fd ps [])
  (hr:rO (k+1) X.A) (hm:X.mg cn=some (.ref C)) (ha:SA X (e::es) F) (h2:Bx X sts w) (hn:(e::es).length+1=ps.length:=by rfl) (hg:Gl X cn:=by rfl) (hdb:(cn==("__debug__" : Str))=false:=by decide) (hix:X.N[i]?=some x:=by rfl) (hx:Loc X.env.scope x:=by first | exact Or.inl rfl | exact Or.inr rfl)
  (hs:swapsWith (.Call (.Name cn p) (e::es) [] p1) (some (.Name x px)) pos.line X.env=pure false:=by rfl) (hf:X.fn x=true\/X.env.scope.names.lookup x=some .local:=by first | exact .inl rfl | exact .inr rfl) :
  Bx X (.Assign [.Name x px] (.Call (.Name cn p) (e::es) [] p1) pos::sts) (Iw i (vO NI C f g) F w):=by
 have hst:=ha.2.2
 rw[O2,Oe] at hst
 have he:=aJ es X.env hst.1
 have hpl:=bQ (pos:=p1) (env:=X.env) hst.2
 intro S pins s σ H E I ⟨ρ,τ,o,er,mS,eo,qq⟩
 obtain⟨ds,r,e1,hi,rfl,hw⟩:=Ie eo
 have nin:∀{c:Nat},H c=none->c∉S:=fun {c} hc hz=>by
  have:=mS c hz
  rw[hc] at this;exact this
 have mk1:∀a,H a=none->∃l ob,vO NI C f g ds a l=some ob:=fun a h=>by
  obtain⟨b,l,_,h2,h3⟩:=FV (a::S)
  obtain⟨ob,_,h1,_⟩:=hw a l (fun z=>h3 (by rw[z];exact .head _)) (nin h) (fun z=>h3 (.tail _ z))
  exact⟨l,ob,h1⟩
 refine wpAny_execs_cons (sh ((gx (i:=i) hN hix hx (mX M Fn hr hg hm bd .nil xE ha.1 hdb he hpl) hs hf) pins s σ H {E with nx:=fun σ' H'=>∃a l ob,H a=none/\H l=none/\a≠l/\σ'=σ.set i (some (.ref a))/\vO NI C f g ds a l=some ob/\i9 H H'/\Rep X.K H' ob (.ref a)/\rQ [a,l] H' } I ?_) fun fl s1 z=>?_)
 ·exact FG (by rw[ha.2.1 ρ ds e1];exact hn) er.1 e1 mk1 fun a l ob H1 ha0 hl0 hal hmk sm ro ms=>⟨a,l,ob,ha0,hl0,hal,rfl,hmk,sm,ro,ms⟩
 cases fl with
 | next =>
  obtain⟨σ',H',I',a,l,ob,hHa,hHl,hal,rfl,hmk,sm,ro,ms⟩:=z
  obtain⟨ob',ρ',h1,h3⟩:=hw a l hal (nin hHa) (nin hHl)
  rw[hmk] at h1
  cases h1
  have mS':rQ (a::l::S) H':=fun b hb=>by
   rcases Oj.mp hb with rfl | hb
   ·exact ms _ (.head _)
   ·rcases Oj.mp hb with rfl | hb
    ·exact ms _ (.tail _ (.head _))
    ·exact mS.same sm b hb
  refine h2 (a::l::S) pins s1 _ H' E I' ⟨ρ.set i (some ob),τ,_,(er.mono sm).set hi ro,mS',h3,fun H2 kq m2=>?_⟩
  intro v rv _
  refine qq H2 (fun b u hn hb=>?_) (fun b hb=>m2 b (.tail _ (.tail _ hb))) v rv (fun j d hj=>by cases hj)
  refine kq b u (fun z=>?_) (sm b u hb)
  rcases Oj.mp z with rfl | z
  ·rw[hHa] at hb;cases hb
  ·rcases Oj.mp z with rfl | z
   ·rw[hHl] at hb;cases hb
   ·exact hn z
 | brk=>exact z
 | cont=>exact z
 | ret v=>exact z
end
structure Ct (B:OC) (l:List Env) (e C:N9) (h:OC):Prop where
 st:B.StaysIn h
 ne:B.get? e=none
 fr:h.FunFrames B l
 tr:∃a0 fl,h.TracedAtW B e (.ref C) a0 fl
section
variable{M:Model}{A:OJ}{E:N8->Oa->Prop}{s:Oa}{B:OC}{env env':Env}{outer:List Env}{L e C:N9}{Q:Unit->Oa->Prop}
theorem Bp(hfr:A.frames=some (env::outer))(hf:env.frame=some L)(x:Ct B (env::outer) e C s.heap)
  (hQ:∀h',Ct B (env::outer) e C h'->s.heap.UpToSlots h'->Q () {s with heap:=h' }):wpAny M A (noteFrame (.ref e) env) Q E s:=by
 obtain⟨st,ne,fr,a0,fl,tr⟩:=x
 obtain⟨oe,vs,T,oT,ts,he,⟨hc,h0⟩,hd,h1,hnT,hTe,hT,hdT,h3⟩:=id tr
 unfold noteFrame
 simp only[hf]
 refine Ob (wpAny_field he hd h1 ?_)
 rw[Of (show(Value.ref T != Value.none)=true by simp)]
 refine Ob (wpAny_field hT hdT h3 ?_)
 by_cases hq:(fl==rawInt L)=true
 ·rw[Of hq]
  exact Ou (hQ s.heap ⟨st,ne,fr,a0,fl,tr⟩ (Heap.UpToSlots.refl _))
 ·rw[Ov hq]
  refine Ob (wpAny_setField hT hdT (Array.getElem?_eq_some_iff.mp h3).1 ?_)
  generalize hg:s.heap.update T (Obj.mapFields fun a=>a.setIfInBounds 3 Value.none)=g
  have oth:∀b,b≠T->g.get? b=s.heap.get? b:=fun b hb=>by rw[<- hg];exact OY _ _ (Ne.symm hb)
  have nrec:∀b o,s.heap.get? b=some o->(∀ws,o.data≠.fields ws)->b≠T:=fun b o hb hn z=>by
   rw[z,hT] at hb
   cases hb
   exact hn ts hdT
  have stg:B.StaysIn g:=fun b o hb=>(oth b fun z=>by rw[z,hnT] at hb;cases hb).trans (st b o hb)
  have frg:g.FunFrames B (env::outer):=fr.of_keeps fun b o hb hn=>⟨o,(oth b (nrec b o hb hn)).trans hb,rfl⟩
  have heg:g.get? e=some oe:=(oth e (Ne.symm hTe)).trans he
  refine wpAny_entryW (s:={s with heap:=g}) hfr frg hf heg stg ne hd (Array.getElem?_eq_some_iff.mp h1).1 h0 fun h' ⟨k1,k2,k3,k4⟩=>?_
  refine hQ h' ⟨k1,ne,k2,a0,_,by rw[<- hc];exact k3⟩ fun b o hb hn=>k4 b o ((oth b (nrec b o hb hn)).trans hb) hn
theorem w9{fo:N7 N9}(x:Ct B outer e C s.heap)(hQ:∀h',Ct B outer e C h'->s.heap.UpToSlots h'->Q () {s with heap:=h' }):wpAny M A (setFlight (.ref e) fo) Q E s:=by
 obtain⟨st,ne,fr,a0,fl,tr⟩:=x
 obtain⟨oe,vs,T,oT,ts,he,hc,hd,h1,hnT,hTe,hT,hdT,h3⟩:=tr
 have hsz:3<ts.size:=(Array.getElem?_eq_some_iff.mp h3).1
 unfold setFlight
 refine Ob (wpAny_field he hd h1 ?_)
 rw[Of (show(Value.ref T != Value.none)=true by simp)]
 refine wpAny_setField hT hdT hsz ?_
 generalize fo.elim Value.none (fun f=>rawInt f)=nf
 have oth:∀b,b≠T->(s.heap.update T (Obj.mapFields fun a=>a.setIfInBounds 3 nf)).get? b=s.heap.get? b:=fun b hb=>OY _ _ (Ne.symm hb)
 have nrec:∀b o,s.heap.get? b=some o->(∀ws,o.data≠.fields ws)->b≠T:=fun b o hb hn z=>by
  rw[z,hT] at hb
  cases hb
  exact hn ts hdT
 refine hQ _ ⟨fun b o hb=>(oth b fun z=>by rw[z,hnT] at hb;cases hb).trans (st b o hb),ne,fr.of_keeps fun b o hb hn=>⟨o,(oth b (nrec b o hb hn)).trans hb,rfl⟩,a0,nf,
  oe,vs,T,_,_,(oth e (Ne.symm hTe)).trans he,hc,hd,h1,hnT,hTe,Pm _ hT (Obj.isFreed_of_fields (Obj.data_mapFields hdT _)),Obj.data_mapFields hdT _,by simp[hsz]⟩ fun b o hb hn=>⟨o.slots,(oth b (nrec b o hb hn)).trans hb⟩
theorem Ct.low(x:Ct B (env::outer) e C s.heap):Ct B outer e C s.heap:=⟨x.st,x.ne,x.fr.2.2,x.tr⟩
theorem zS(hfr:A.frames=some (env::outer))(hf:env.frame=some L)(x:Ct B (env::outer) e C s.heap)
  (hQ:∀h',Ct B outer e C h'->s.heap.UpToSlots h'->Q () {s with heap:=h' }):wpAny M A (leaving env (.ref e)) Q E s:=by
 unfold leaving
 refine Ob (Bp hfr hf x fun h1 x1 u1=>w9 (s:={s with heap:=h1}) x1 fun h2 x2 u2=>?_)
 exact hQ h2 (Ct.low (s:={s with heap:=h2}) x2) (u1.trans u2)
end
def xT(P:Oh)(w:Ot):AK:=fun outer H s E ev s'=>∃e C B H',ev=.ref e/\s'.os=s.os/\AllBare s'.gens/\Ct B outer e C s'.heap/\Un (vf outer) [] H H' s.heap s'.heap/\wF P w H' s'.heap /\
 (∀b o,s.heap.get? b=some o->b∉vf outer->∃o',B.get? b=some o')/\(∀b u,H' b=some u->∃o',B.get? b=some o')/\i9 H H'/\E (.ref C) none H'
structure M_ (X:Cx) (pins:List (N9×Obj)) (σ:L2.St) (B:OC) (e C:N9) (H':Hp) (s':Oa):Prop where
 inv:L2.Inv X pins σ H' s'
 ent:∀b o,X.s₀.heap.get? b=some o->b∉vf X.stack->b∉X.ex->∃o',B.get? b=some o'
 hld:∀b u,H' b=some u->∃o',B.get? b=some o'
 loc:X.env.locals∉vf X.stack->∃o',B.get? X.env.locals=some o'
 pin:∀p∈X.pn++pins,∃o',B.get? p.1=some o'
 exc:Ct B X.stack e C s'.heap
def Nz(X:Cx)(e C:N9)(H':Hp)(s':Oa):Prop:=∃pins σ B,M_ X pins σ B e C H' s'
def XW(X:Cx)(C:N9)(H':Hp):Prop:=∀e s',Nz X e C H' s'->X.xe (.ref e) s'
def EX(X:Cx):XK:=fun Cv _ H'=>∃C,Cv=.ref C/\XW X C H'
section
variable{X:Cx}{pins:List (N9×Obj)}{σ:L2.St}{H H':Hp}{s s':Oa}{e C:N9}
theorem IU {E:XK} (I:L2.Inv X pins σ H s) (h:∃B,s'.os=s.os/\AllBare s'.gens/\Ct B X.stack e C s'.heap/\Un (vf X.stack) [] H H' s.heap s'.heap/\wF X.prog X.w H' s'.heap /\
  (∀b o,s.heap.get? b=some o->b∉vf X.stack->∃o',B.get? b=some o')/\(∀b u,H' b=some u->∃o',B.get? b=some o')):∃B,M_ X pins σ B e C H' s':=by
 obtain⟨B,os,bare,x,un,hok,c1,c2⟩:=h
 refine⟨B,I.call' (ch:=[]) os un hok bare (fun b hb=>OA hb (by simp)),fun b o hb hn hx=>?_,c2,fun hn=>?_,fun p hp=>?_,x⟩
 ·obtain⟨o1,e1⟩:=I.base.there b o hb hx
  exact c1 b o1 e1 hn
 ·obtain⟨m,hm,_⟩:=I.loc
  obtain⟨o,_,_,ho,_⟩:=id hm
  exact c1 _ o ho hn
 ·obtain⟨e1,e2,e3,e4,_⟩:=I.pin p hp
  refine c1 p.1 p.2 e1 fun hm=>?_
  rcases Oj.mp (I.stkSub p.1 hm) with z | z
  ·exact e3 z
  ·exact e4 z
theorem Fj:vT (xT X.prog X.w) X (EX X):=fun pins σ H s ev s' I ⟨e,C,B,H',ee,os,bare,x,un,hok,c1,c2,sm,C',eC,w⟩=>by
 subst ee
 cases eC
 obtain⟨B',xa⟩:=IU (E:=EX X) I ⟨B,os,bare,x,un,hok,c1,c2⟩
 exact w e s' ⟨pins,σ,B',xa⟩
theorem xt{P:Oh}{w:Ot}{B h h':OC}(hok:wF P w H' h)(st:B.StaysIn h)(st':B.StaysIn h')(c2:∀b u,H' b=some u->∃o',B.get? b=some o'):wF P w H' h':=fun a o ha =>
 (hok a o ha).stay (fun b u hb e=>by
  have hH:∃v,H' b=some v:=by
   rcases hb with z | z
   ·exact⟨o,z ▸ ha⟩
   ·exact⟨_,z⟩
  obtain⟨v,hv⟩:=hH
  obtain⟨o',e'⟩:=c2 b v hv
  have:=st b o' e'
  rw[e] at this
  cases this
  exact st' b u e') (fun _ z=>z) (fun _ _ z=>z) (fun _ _ _ z=>z)
theorem yD{fs ex:List N9}{H0:Hp}{B h0 h h':OC}(u:Un fs ex H0 H' h0 h)(st:B.StaysIn h)(st':B.StaysIn h')(up:∀b∈fs,∀o,h.get? b=some o->(∀ws,o.data≠.fields ws)->∃sl,h'.get? b=some {o with slots:=sl})(nf:∀b∈fs,∃o,h.get? b=some o/\∀ws,o.data≠.fields ws)(c:∀b o,h0.get? b=some o->b∉fs->b∉ex->∃o',B.get? b=some o'):Un fs ex H0 H' h0 h':=by
 refine⟨fun b o hb n hf hx=>?_,fun b o hb n hf hx=>?_,u.free,fun b o hb hx=>?_,u.tups,u.frzs,u.tbls⟩
 ·obtain⟨o',e'⟩:=c b o hb hf hx
  have e1:=u.keep b o hb n hf hx
  have e2:=st b o' e'
  rw[e1] at e2
  cases e2
  exact st' b o e'
 ·obtain⟨sl,e1⟩:=u.slot b o hb n hf hx
  obtain⟨o1,e2,nd⟩:=nf b hf
  rw[e1] at e2
  cases e2
  obtain⟨sl2,e3⟩:=up b hf _ e1 nd
  exact⟨sl2,e3⟩
 ·by_cases hf:b∈fs
  ·obtain⟨o1,e2,nd⟩:=nf b hf
   obtain⟨sl2,e3⟩:=up b hf _ e2 nd
   exact⟨_,e3⟩
  ·obtain⟨o',e'⟩:=c b o hb hf hx
   exact⟨o',st' b o' e'⟩
end
section
variable{P:Oh}{w:Ot}{K:N_}{mg:Str->N7 N8}{base:OC}{N:List Str}{qual:Str}{scope:Scope}{f:N9}{cd:N8}{A:OJ}{outer:List Env}{s:Oa}{H H':Hp}{E:XK}{C:N9}
theorem Jb(hE:E (.ref C) none H')(hS:i9 H H'):XW (uV (xT P w) P w K mg base N qual scope f cd A outer s H E) C H':=fun e s' ⟨pins,σ,B,I',c1,c2,_,_,x⟩=>by
 show wpAny (model P w) (A.deeper (envOfC qual scope s.heap.objs.size f cd)) (leaving (envOfC qual scope s.heap.objs.size f cd) (.ref e)) (fun _ s''=>xT P w outer H s E (.ref e) s'') (fun e' s''=>xT P w outer H s E e' s'') s'
 refine zS I'.ok.frames rfl x fun h' x' up=>?_
 have hfn:∀b o,s.heap.get? b=some o->b∉vf outer->b∉vf (envOfC qual scope s.heap.objs.size f cd::outer):=fun b o hb hn hm=>by
  have hm':b∈s.heap.objs.size::vf outer:=hm
  rcases Oj.mp hm' with z | z
  ·rw[z] at hb;exact OX _ (Om hb)
  ·exact hn z
 have cov:∀b o,s.heap.get? b=some o->b∉vf outer->∃o',B.get? b=some o':=fun b o hb hn=>c1 b o hb (hfn b o hb hn) (by intro z;cases z)
 exact⟨e,C,B,H',rfl,I'.os,I'.bare,x',yD I'.base x.st x'.st (fun b _ o=>up b o) (fun b hb=>by
   obtain⟨_,o,ho,nd⟩:=x.fr.mem (Oy _ hb:b∈s.heap.objs.size::vf outer)
   exact⟨o,ho,nd⟩) (fun b o hb hf _=>cov b o hb hf),xt I'.hok x.st x'.st c2,cov,c2,hS,hE⟩
end
section
variable{X:Cx}{pins:List (N9×Obj)}{σ:L2.St}{H H':Hp}{s s':Oa}{e C:N9}{B h':OC}
theorem FE(I:L2.Inv X pins σ H s)(st:B.StaysIn s.heap)(st':B.StaysIn h')(up:∀b∈X.env.locals::X.fs,∀o,s.heap.get? b=some o->(∀ws,o.data≠.fields ws)->∃sl,h'.get? b=some {o with slots:=sl})
  (ent:∀b o,X.s₀.heap.get? b=some o->b∉X.fs->b∉X.ex->∃o',B.get? b=some o') (hld:∀b u,H b=some u->∃o',B.get? b=some o') (pin:∀p∈X.pn++pins,∃o',B.get? p.1=some o')
  (cel:∀x c,X.env.cells.lookup x=some c->∃o',B.get? c=some o'):L2.Inv X pins σ H {s with heap:=h' }:=by
 have same:∀b o,(∃o',B.get? b=some o')->s.heap.get? b=some o->h'.get? b=some o:=fun b o ⟨o',e'⟩ hb=>by
  have:=st b o' e'
  rw[hb] at this
  cases this
  exact st' b o e'
 have nsL:∀m,s.heap.Ns X.env.locals m->h'.Ns X.env.locals m:=fun m hm=>by
  obtain⟨o,es,ep,ho,hd,r⟩:=hm
  obtain⟨sl,hs⟩:=up _ ON o ho fun ws q=>by rw[hd] at q;cases q
  exact⟨_,es,ep,hs,hd,r⟩
 have cellK:∀x c v,X.env.cells.lookup x=some c->s.heap.IsCell c v->h'.IsCell c v:=fun x c v hc ⟨o,ho,hd⟩=>⟨o,same c o (cel x c hc) ho,hd⟩
 obtain⟨m,hm,hl⟩:=I.loc
 refine⟨I.ok,I.os,I.bare,yD I.base st st' (fun b hb o=>up b (Oy _ hb) o) (fun b hb=>?_) ent,⟨m,nsL m hm,fun i x v h1 h2 h3=>?_⟩,fun x c hc=>?_,I.free,I.freeC,fun p hp=>?_,xt I.hok st st' hld,I.len⟩
 ·obtain⟨_,o,ho,nd⟩:=I.ok.funs.mem hb
  have hn:=I.ok.frf b hb
  by_cases hx:b∈X.ex
  ·exact OA hb (I.ok.exfs b hx)
  ·obtain⟨sl,e1⟩:=I.base.any ho hn hx
   exact⟨_,e1,nd⟩
 ·obtain⟨u,r,lk⟩:=hl i x v h1 h2 h3
  refine⟨u,r,?_⟩
  rcases lk with q | ⟨k,c,hc,z⟩
  ·exact .inl q
  ·exact .inr ⟨k,c,hc,cellK x c _ hc z⟩
 ·obtain⟨v,z⟩:=I.cell x c hc
  exact⟨v,cellK x c v hc z⟩
 ·obtain⟨e1,e2,e3,e4,e5⟩:=I.pin p hp
  exact⟨same _ _ (pin p hp) e1,e2,e3,e4,e5⟩
end
end HW
namespace HW
open PySem
abbrev XD:=R->N7 (Except Nat D)
abbrev XO:=R->N7 (Except Nat Out)
def Ck(k:Nat)(f:R->OD):XO:=fun ρ=>(f ρ).map fun _=>.error k
end HW
namespace HW
open PySem PySem.Spec PyProof.Rows L2
abbrev VE:List N8:=[.type "ValueError",.type "Exception",.type "BaseException",.type "object"]
def Nq:List Str:=["__init__","__getattribute__","__getattr__","__class__"]
def FX(K:N_)(C:N9)(bm:List N8)(newId:String):Prop:=
 ∃N nm q bs hdct sn sub ab col dd k0 k1 k2 k3 k5 mN,(∀n∈Nq,mN n=none)/\∀h,K.In h->h.get? C=some (excClassObj nm q C N bs bm hdct sn sub ab col dd k0 k1 k2 k3 k5 newId)/\h.Ns N mN
structure IP (K:N_) (C Wz:N9) (newId nW:String):Prop where
 own:FX K C (.ref Wz::VE) newId
 base:FX K Wz VE nW
theorem IP.tail{K:N_}{C Wz:N9}{newId nW:String}(T:IP K C Wz newId nW){h:OC}(x:K.In h):OwnTail h VE (.ref Wz::VE):=by
 obtain⟨N,nm,q,bs,hdct,sn,sub,ab,col,dd,k0,k1,k2,k3,k5,mN,hq,hh⟩:=T.base
 exact .own (hh h x).1 (hh h x).2 (hq _ (.head _)) .base
def XM(X:Cx)(C:N9)(H':Hp):Prop:=∀pins σ s e h' vs,L2.Inv X pins σ H' s->Heap.MadeExcOf s.heap h' e (.ref C) vs->X.xe (.ref e) {s with heap:=h' }
def XT(X:Cx)(C:N9)(H':Hp):Prop:=XW X C H'/\XM X C H'
theorem Bl{P:Oh}{w:Ot}{H:Hp}{h:OC}{a:N9}{o:HO}(x:tK P w H h a o):∃ob,h.get? a=some ob:=by
 cases o with
 | lst xs=>obtain⟨_,_,_,_,e⟩:=x;exact⟨_,e⟩
 | tup xs=>obtain⟨_,_,_,p⟩:=x;obtain⟨o,e,_⟩:=p;exact⟨_,e⟩
 | dK kvs=>obtain⟨_,_,_,_,o,_,_,e,_⟩:=x;exact⟨_,e⟩
 | dT kvs=>obtain⟨_,_,_,_,o,_,_,e,_⟩:=x;exact⟨_,e⟩
 | set S n=>obtain⟨o,_,_,_,e,_⟩:=x;exact⟨_,e⟩
 | ins C dx fs=>obtain⟨_,_,_,e,_⟩:=x;exact⟨_,e⟩
 | own y=>obtain⟨_,e⟩:=x;exact⟨_,e⟩
 | xd fs=>obtain⟨_,⟨_,_,_,e,_⟩,_⟩:=x;exact⟨_,e⟩
 | rng lo hi=>obtain⟨_,_,_,e⟩:=x;exact⟨_,e⟩
 | frz ob u=>obtain⟨e,_⟩:=x;exact⟨_,e⟩
 | tbl q c =>
  cases c with
  | true=>obtain⟨_,o,_,_,e,g,_⟩:=(show h.CodeRec (.ref a) q from x);cases e;exact⟨_,g⟩
  | false=>obtain⟨_,e,_⟩:=x;exact⟨_,e⟩
 | met f y=>exact⟨_,(show h.get? a=some _ from x)⟩
 | ext φ=>obtain⟨_,⟨_,e⟩,_⟩:=x;exact⟨_,e⟩
section
variable{P:Oh}{w:Ot}{K:N_}{mg:Str->N7 N8}{base:OC}{N:List Str}{qual:Str}{scope:Scope}{f:N9}{cd:N8}{A:OJ}{outer:List Env}{s:Oa}{H H':Hp}{E:XK}{C:N9}
theorem JI(hE:E (.ref C) none H')(hS:i9 H H'):XM (uV (xT P w) P w K mg base N qual scope f cd A outer s H E) C H':=fun pins σ s1 e h1 vs I hm=>by
 show wpAny (model P w) (A.deeper (envOfC qual scope s.heap.objs.size f cd)) (leaving (envOfC qual scope s.heap.objs.size f cd) (.ref e)) (fun _ s''=>xT P w outer H s E (.ref e) s'') (fun e' s''=>xT P w outer H s E e' s'') {s1 with heap:=h1}
 generalize hl:vf (envOfC qual scope s.heap.objs.size f cd::outer)=l
 have hin:∀env∈(envOfC qual scope s.heap.objs.size f cd::outer),∀b,env.frame=some b->b∈l:=fun env he b hb=>by rw[<- hl];exact List.mem_filterMap.mpr ⟨env,he,hb⟩
 have stB:(W.hideAll s1.heap l).StaysIn s1.heap:=fun b o q=>W.of_hideAll _ q
 refine wpAny_leaves_madeW (s:={s1 with heap:=h1}) (base:=W.hideAll s1.heap l) (h:=s1.heap) I.ok.frames rfl stB (W.funFrames_hide I.stack hin) hm fun h' t fl _ _ up=>?_
 obtain⟨f1,f2,f3,f4⟩:=fl
 have cov:∀b o,s.heap.get? b=some o->b∉vf outer->∃o',(W.hideAll s1.heap l).get? b=some o':=fun b o hb hn=>by
  obtain⟨o1,e1⟩:=I.base.there b o hb (by intro z;cases z)
  refine⟨o1,W.hideAll_get _ e1 fun z=>?_⟩
  rw[<- hl] at z
  have z':b∈s.heap.objs.size::vf outer:=z
  rcases Oj.mp z' with q | q
  ·rw[q] at hb;exact OX _ (Om hb)
  ·exact hn q
 have c2:∀b u,H' b=some u->∃o',(W.hideAll s1.heap l).get? b=some o':=fun b u hb=>by
  obtain⟨ob,e1⟩:=Bl (I.hok b u hb)
  refine⟨ob,W.hideAll_get _ e1 fun z=>?_⟩
  rw[<- hl] at z
  rw[I.stkFree b z] at hb
  cases hb
 exact⟨e,C,_,H',rfl,I.os,I.bare,⟨f1,f2,f3,_,_,f4.at⟩,yD I.base stB f1 (fun b _ o=>(Heap.UpToSlots.of_keeps hm.keeps).trans up b o) (fun b hb=>by
   obtain⟨_,o,ho,nd⟩:=I.stack.mem (Oy _ hb:b∈s.heap.objs.size::vf outer)
   exact⟨o,ho,nd⟩) (fun b o hb hf _=>cov b o hb hf),xt I.hok stB f1 c2,cov,c2,hS,hE⟩
theorem I9(hE:E (.ref C) none H')(hS:i9 H H'):XT (uV (xT P w) P w K mg base N qual scope f cd A outer s H E) C H':=⟨Jb hE hS,JI hE hS⟩
end
section
variable(cl:Nat->N9)
def NS(X:Cx)(g:XO):TS:=fun E σ H=>∃ ρ τ r,sd X.K H ρ τ σ/\g ρ=some r/\match r with
 | .ok o=>∀H',i9 H H'->fin X.K E τ o H'
 | .error c=>∀H',i9 H H'->XT X (cl c) H'
def NW(K:N_)(F:LD->N7 (Except Nat D)):Sp:=fun vs H Q E=>∃ds r,i8 K H ds vs/\F ds=some r/\match r with
 | .ok d=>∀v H',i9 H H'->Rep K H' d v->Q v H'
 | .error c=>∀H',i9 H H'->E (.ref (cl c)) none H'
def Mx(X:Cx)(s:OE)(g:XO):Prop:=PS X s (NS cl X g)
end
section
variable{X:Cx}{cl:Nat->N9}{e:OG}{es:List OG}{st:OE}{sts:List OE}{pos p:Pos}{f:R->OD}{fx:XD}{g:XO}{u:R->N7 Out}
structure DY (P:Oh) (w:Ot) (K:N_) (mg:Str->N7 N8) (base:OC) (cl:Nat->N9) (k:Nat) (x:Str) (ps:List Str) (F:LD->N7 (Except Nat D)):Prop where
 ex:∃f fd,k6 P w K mg base (xT P w) k f fd ps (NW cl K F)/\mg x=some (.ref f)/\W.keepIn K (.ref f)=true/\Binds K fd ps []
theorem DY.mono{P:Oh}{w:Ot}{K:N_}{mg:Str->N7 N8}{base:OC}{j k:Nat}{x:Str}{ps:List Str}{F:LD->N7 (Except Nat D)}(h:DY P w K mg base cl j x ps F)(hk:j<=k):DY P w K mg base cl k x ps F:=by
 obtain⟨f,fd,a,b⟩:=h.ex
 exact⟨f,fd,a.mono hk,b⟩
theorem DY.m{P:Oh}{w:Ot}{K:N_}{mg:Str->N7 N8}{base:OC}{j k:Nat}{x:Str}{ps:List Str}{F:LD->N7 (Except Nat D)}(h:DY P w K mg base cl j x ps F)(hk:j<=k:=by decide):DY P w K mg base cl k x ps F:=h.mono hk
theorem Fu{c:Nat}{x:Str}{Wz:N9}{newId nW Bn inN:String}{bmN:List N8}{np cpos:Pos}(T:IP X.K (cl c) Wz newId nW)(Fn:ExcBaseFacts Bn newId inN bmN)(hBn:VE.contains (.type Bn)=true)(hc:X.calm=true)(hm:X.mg x=some (.ref (cl c)))(ha:SE X e f)
  (hg:Gl X x:=by rfl) (hd:(x==("__debug__" : Str))=false:=by decide) (hst:noStar e=true:=by rfl):Mx cl X (.Raise (some (.Call (.Name x np) [e] [] cpos)) none pos) (Ck c f):=by
 intro pins s σ H D I ⟨ρ,τ,r,er,e1,q⟩
 obtain⟨d,e2,e3⟩:=rW e1
 subst e3
 obtain⟨N,nm,qq,bs,hdct,sn,sub,ab,col,dd,k0,k1,k2,k3,k5,mN,hq,hh⟩:=T.own
 have tl:=T.tail I.kIn
 have hst1:=aJ [] X.env hst
 refine wpAny_Raise_call_subU (C:=cl c) (nm:=nm) (q:=qq) (N:=N) (bs:=bs) (bm:=.ref Wz::VE) (hdct:=hdct) (sn:=sn) (sub:=sub) (ab:=ab) (col:=col) (dd:=dd) (k0:=k0) (k1:=k1) (k2:=k2) (k3:=k3) (k5:=k5) (newId:=newId) (bmB:=VE)
  Fn hBn F.excBase_ValueError (mN:=mN) (tl.hasType F.excBase_ValueError.hasBase) (I.ok.hd hc) (by rw[hst1];rfl) (hq _ (.head _)) (fu I hg hm ⟨rfl,?_⟩ hd)
 have hA:=(ac ha af hst).1 cpos pins s σ H (fun vs H2=>i9 H H2/\i8 X.K H2 [d] vs) I ⟨ρ,[d],er.1,by show(f ρ).bind _=_;rw[e2];rfl,fun vs H2 s2 r2=>⟨s2,r2⟩⟩
 rw[hst1] at hA ⊢
 refine Calls.evalArgs_plain (sh hA fun us s2 ⟨vs,H2,I2,r2,s12,rd⟩=>?_)
 have x2:=I2.kIn
 refine⟨rfl,?_,(hh _ x2).1,(hh _ x2).2,T.tail x2,fun h' e' hme=>(q H2 s12).2 pins σ s2 e' h' us I2 hme⟩
 ·show us.length<=sizeLine
  rw[<- r2.length,<- rd.length]
  exact OH (show 1<=1000 by decide) (by decide)
end
structure tG where
 c:N9
 P:N9
 q:Str
def A0(ts:List tG)(b:N9):N7 HO:=(ts.find? fun t=>t.P==b).map fun t=>.tbl t.q false
theorem yz{ts:List tG}{b:N9}{u:HO}(h:A0 ts b=some u):∃t∈ts,t.P=b/\u=.tbl t.q false:=by
 unfold A0 at h
 cases e:ts.find? fun t=>t.P==b with
 | none=>rw[e] at h;cases h
 | some t =>
  rw[e] at h
  cases h
  exact⟨t,List.mem_of_find?_eq_some e,by simpa using List.find?_some e,rfl⟩
def Dj(ts:List tG)(a:N9)(H:Hp):Prop:=∀b,(b≠a/\H b=A0 ts b)\/(b=a/\(H b=none\/∃o xs,H b=some (.frz o (.lst xs))))
structure tR (mg:Str->N7 N8) (ts:List tG) (base:OC):Prop where
 code:∀t∈ts,W.CodeHd base t.c t.P
 bm:∃bm o,mg "__builtins__" = some (.ref bm)/\bm≠builtinsNs/\bm≠mainGlobals/\base.get? bm=some o/\o.cls=.type "module" /\ o.dict=some builtinsNs/\o.data=.plain
theorem DQ{P:Oh}{w:Ot}{K:N_}{mg mb:Str->N7 N8}{CX:AK}{k:Nat}{fa a:N9}{fd:OV}{x:Str}{sp:Sp}{s₁:Oa}{vs:List N8}{ns:List Int}{ts:List tG}
  (KX:K.In s₁.heap) (hns:s₁.heap.Ns mainGlobals mg) (hb:s₁.heap.Ns builtinsNs mb) (hbb:∀x:Str,x ≠ "__name__" -> mb x=bootBuiltins x) (hlim:s₁.heap.NoLimit) (hg:s₁.gens=#[])
  (ha:s₁.heap.get? a=some {cls:=.type "list",data:=.seq vs.toArray}) (hi:IntsAre vs ns) (hl:ns.length<=sizeLine) (hr:rO k callerA)
  (hT:∀t∈ts,W.CodeHd s₁.heap t.c t.P/\s₁.heap.get? t.P=some (W.tabObj #[])) (hK:∀t∈ts,K.lookup t.P=none)
  (hbm:∃bm o,mg "__builtins__" = some (.ref bm)/\bm≠builtinsNs/\bm≠mainGlobals/\s₁.heap.get? bm=some o/\o.cls=.type "module" /\ o.dict=some builtinsNs/\o.data=.plain)
  (F:∀base:OC,K.In base->base.Ns mainGlobals mg->tR mg ts base->k6 P w K mg base CX k fa fd [x] sp) (hbind:∀(s:Oa) (u:N8),BindsTo s fd ⟨[u],[]⟩ [(x,u)])
  (hsp:∀H:Hp,Dj ts a H->(∀t∈ts,t.P≠a)->uJ K H a (ns.map V.int)->sp [.ref a] H (fun v _=>v=.bl true) fun _ _ _=>False)
  (hCX:∀H e s',CX [] H s₁ (fun _ _ _=>False) e s'->False) :
  codeAny (model P w) callerA (.call (.ref fa) ⟨[.ref a],[]⟩) (fun r s'=>r=.ok (.ret (.bool true))/\OldK s₁.heap s'.heap/\s'.os=s₁.os/\AllBare s'.gens) s₁:=by
 have rv:=L2.vals_ints hi
 have lenV:=hi.length
 have aP:∀t∈ts,t.P≠a:=fun t ht z=>by
  have e:=(hT t ht).2
  rw[z,ha] at e;cases e
 have tabOk:∀(H:Hp) {b:N9} {u:HO},A0 ts b=some u->tK P w H s₁.heap b u:=fun H {b u} h=>by
  obtain⟨t,ht,rfl,rfl⟩:=yz h
  exact⟨#[],(hT t ht).2,trivial,fun pos cv hc=>by cases hc⟩
 have core:∀H:Hp,Dj ts a H->uJ K H a (ns.map V.int)->wF P w H s₁.heap->(H a≠none->K.lookup a=none) ->
   codeAny (model P w) callerA (.call (.ref fa) ⟨[.ref a],[]⟩) (fun r s'=>r=.ok (.ret (.bool true))/\OldK s₁.heap s'.heap/\s'.os=s₁.os/\AllBare s'.gens) s₁:=by
  intro H hO hS hok hKa
  have what:∀{b:N9} {u:HO},H b=some u->(b=a)\/∃t∈ts,t.P=b/\u=.tbl t.q false:=fun {b u} e=>by
   rcases hO b with ⟨_,z⟩ | ⟨z,_⟩
   ·rw[e] at z;exact .inr (yz z.symm)
   ·exact .inl z
  have base_of:∀{b:N9} {o:Obj},s₁.heap.get? b=some o->H b=none->(w8 s₁.heap H).get? b=some o:=fun e n=>Bu e n
  have free:∀{b:N9} {o:Obj},s₁.heap.get? b=some o->(∀(its:Array N8) n,o.data≠.seq its n)->(o.cls≠.none)->H b=none:=fun {b o} e h1 h2=>by
   cases q:H b with
   | none=>rfl
   | some u =>
    rcases what q with z | ⟨t,ht,z,_⟩
    ·rw[z,ha] at e;cases e;exact OA rfl (h1 _ _)
    ·rw[<- z,(hT t ht).2] at e;cases e;exact OA rfl h2
  have noA:∀{b:N9} {o:Obj} {es:Array DictEntry} {ep:Nat},s₁.heap.get? b=some o->o.data=.dict es ep->H b=none:=fun {b o es ep} e d=>by
   cases q:H b with
   | none=>rfl
   | some u =>
    rcases what q with z | ⟨t,ht,z,_⟩
    ·rw[z,ha] at e;cases e;cases (show Data.seq vs.toArray _=Data.dict es ep from d)
    ·rw[<- z,(hT t ht).2] at e;cases e;cases d
  have nsK:∀{b:N9} {m:Str->N7 N8},s₁.heap.Ns b m->(w8 s₁.heap H).Ns b m:=fun {b m} ⟨o,es,ep,e,d,r⟩=>⟨o,es,ep,base_of e (noA e d),d,r⟩
  have hKb:K.In (w8 s₁.heap H):=fun b o e=>base_of (KX b o e) (by
   cases q:H b with
   | none=>rfl
   | some u =>
    rcases what q with z | ⟨t,ht,z,_⟩
    ·subst z;rw[hKa (by rw[q];simp)] at e;cases e
    ·rw[<- z,hK t ht] at e;cases e)
  have hM:Mod K mg (w8 s₁.heap H):=⟨hKb,nsK hns,⟨mb,nsK hb,hbb⟩,let ⟨mc,h1,h2⟩:=hlim;⟨mc,nsK h1,h2⟩⟩
  have hTB:tR mg ts (w8 s₁.heap H):=by
   refine⟨fun t ht=>?_,?_⟩
   ·obtain⟨o,vs',file,tf,flags,tg,inF,text,tt,e,ec,ed,r⟩:=(hT t ht).1
    exact⟨o,vs',file,tf,flags,tg,inF,text,tt,base_of e (free e (fun its n z=>by rw[ed] at z;cases z) (by rw[ec];simp)),ec,ed,r⟩
   ·obtain⟨bm,o,b1,b2,b3,b4,b5,b6,b7⟩:=hbm
    exact⟨bm,o,b1,b2,b3,base_of b4 (free b4 (fun its n z=>by rw[b7] at z;cases z) (by rw[b5];simp)),b5,b6,b7⟩
  have e0:xW P w K mg (w8 s₁.heap H) callerA [] s₁ H:=⟨rfl,hM,fun b o e=>DD e,Nat.le_of_eq (Ag _ _),trivial,fun b hb=>OA (show b∈([]:List N9) from hb) (by simp),hok,.of_eq hg⟩
  refine codeAny_mono ((F _ hKb (nsK hns) hTB).run callerA [] s₁ H ⟨[.ref a],[]⟩ [.ref a] [.ref a] _ _ hr e0 (hbind s₁ (.ref a)) (.cons rfl .nil) (hsp H hO aP hS)) fun r s' h=>?_
  cases r with
  | error e=>exact(hCX H e s' h).elim
  | ok fl =>
   cases fl with
   | next=>exact False.elim h
   | brk=>exact False.elim h
   | cont=>exact False.elim h
   | ret u =>
    obtain⟨v,H',os,bare,un,hok',r',q⟩:=h
    have q':v=.bl true:=q
    subst q'
    obtain rfl:u=Value.bool true:=r'
    have tab:∀{b:N9} {o:Obj},s₁.heap.get? b=some o->(s'.heap.get? b=some o)\/∃t∈ts,t.P=b/\o=W.tabObj #[]/\∃ps,s'.heap.get? b=some (W.tabObj ps):=fun {b o} e=>by
     cases qb:H b with
     | none=>exact .inl (un.keep b o e qb (by intro z;exact OA (show b∈([]:List N9) from z) (by simp)) (by simp))
     | some u =>
      rcases hO b with ⟨_,z⟩ | ⟨_,z⟩
      ·rw[qb] at z
       obtain⟨t,ht,zP,rfl⟩:=yz z.symm
       have z2:=un.tbls b _ _ qb
       obtain⟨ps,g,_⟩:=(show tK P w H' s'.heap b (.tbl t.q false) from hok' b _ z2)
       have e2:=(hT t ht).2
       rw[zP,e] at e2
       exact .inr ⟨t,ht,zP,Ow e2,ps,g⟩
      ·rcases z with z | ⟨ob,xs,z⟩
       ·rw[qb] at z;cases z
       ·have z2:=un.frzs b ob _ (fun y q=>by cases q) z
        obtain⟨e1,_⟩:=hok b _ z
        obtain⟨e2,_⟩:=hok' b _ z2
        rw[e] at e1;cases e1
        exact .inl e2
    refine⟨rfl,⟨fun b o e=>?_,fun b o e=>?_⟩,os,bare⟩
    ·rcases tab e with z | ⟨t,ht,rfl,rfl,ps,g⟩
     ·exact .inl z
     ·exact .inr (.inl ⟨((hT t ht).1.tab (hT t ht).2).isCodeTable,rfl,#[],ps,rfl,by rw[Array.empty_append];exact g⟩)
    ·rcases tab e with z | ⟨t,ht,rfl,rfl,ps,g⟩
     ·exact⟨_,z⟩
     ·exact⟨_,g⟩
 cases hk:K.lookup a with
 | some o =>
  have e:=KX a o hk
  rw[ha] at e
  cases e
  have hn:A0 ts a=none:=by
   cases q:A0 ts a with
   | none=>rfl
   | some u=>obtain⟨t,ht,z,_⟩:=yz q;exact OA z (aP t ht)
  refine core (A0 ts) (fun b=>?_) (.inr ⟨_,vs.toArray,_,hk,rfl,rfl,rfl,by rw[On,lenV];exact hl,by simpa using rv⟩) (fun b u z=>tabOk _ z) fun z=>OA hn z
  by_cases hb:b=a
  ·exact .inr ⟨hb,.inl (by rw[hb];exact hn)⟩
  ·exact .inl ⟨hb,rfl⟩
 | none =>
  refine core (fun b=>if b=a then some (.frz {cls:=.type "list",data:=.seq vs.toArray} (.lst (ns.map V.int))) else A0 ts b) (fun b=>?_) (.inl (.inr ⟨{cls:=.type "list",data:=.seq vs.toArray},Of rfl⟩)) (fun b u z=>?_) fun _=>hk
  ·by_cases hb:b=a
   ·exact .inr ⟨hb,.inr ⟨_,_,Of hb⟩⟩
   ·exact .inl ⟨hb,Ov hb⟩
  ·by_cases hb:b=a
   ·have z':=(Of hb).symm.trans z
    cases z'
    subst hb
    exact⟨ha,by rw[OK];exact hl,vs,_,rv,ha⟩
   ·exact tabOk _ ((Ov hb).symm.trans z)
theorem xi{i j:Int}{t u:Tok}{c:N8}:∀{l:List N8},TriplesOk l->TriplesOk (l++[.int i t,.int j u,c])
 | [],_=>trivial
 | .int _ _::.int _ _::_::rest,h=>xi (l:=rest) h
theorem zh{pos:Pos}{i j:Int}{t u:Tok}{c cv:N8}:∀{l:List N8},TriplesOk l->codeAmong pos (l++[.int i t,.int j u,c])=some cv->codeAmong pos l=some cv\/cv=c
 | [],_,h=>by
  have h':(if (i==pos.line&&j==pos.col)=true then some c else codeAmong pos [])=some cv:=h
  split at h'
  ·cases h';exact .inr rfl
  ·cases h'
 | .int a ta::.int b tb::d::rest,hl,h=>by
  have h':(if (a==pos.line&&b==pos.col)=true then some d else codeAmong pos (rest++[.int i t,.int j u,c]))=some cv:=h
  show(if (a==pos.line&&b==pos.col)=true then some d else codeAmong pos rest)=some cv\/_
  split at h'
  ·rename_i z;rw[Of z];exact .inl h'
  ·rename_i z;rw[Ov z];exact zh (l:=rest) hl h'
section
variable{X:Cx}{pins:List (N9×Obj)}{σ:L2.St}{H:Hp}{s:Oa}
abbrev vj(o:Obj):HO:=.frz o (.ext fun _=>True)
theorem F_{t:tG}{ts:List tG}{name:Str}{params:Arguments}{body:OG}{scope:Scope}{clos:List (Str×N9)}{pos:Pos}{line:Nat}(I:L2.Inv X pins σ H s)(TB:tR X.mg ts X.base)(ht:t∈ts)(hP:H t.P=some (.tbl t.q false))(hcode:X.env.code=.ref t.c)
  (hcl:closureFor scope X.env=pure clos):wpAny (model X.prog X.w) X.A (makeFunction name t.q params (.expr body) scope X.env [] [] [] pos line)
   (fun v s'=>∃f c' ctv pm H',v=.ref f/\L2.Inv X pins σ H' s'/\i9 H H'/\H f=none/\H' f=some (vj (W.kla_obj name t.q params body scope clos pm c' ctv))/\H' c'=some (.tbl t.q true)) X.xe s:=by
 obtain⟨tv,eP,tr,ent⟩:=(show tK X.prog X.w H s.heap t.P (.tbl t.q false) from I.hok _ _ hP)
 have hg:s.heap.Ns mainGlobals X.mg:=I.mod.glob.keeps I.bk
 have C:W.CodeHd s.heap t.c t.P:=(TB.code t ht).keeps I.bk
 have nbase:∀{b:N9} {o:Obj},X.base.get? b=some o->b≠t.P:=fun e z=>by
  have:=(I.bs _ _ e).2
  rw[z,hP] at this;cases this
 have hgP:mainGlobals≠t.P:=by
  obtain⟨o,_,_,e,_⟩:=I.mod.glob
  exact nbase e
 have hb:s.heap.BuiltinsAt X.mg t.P:=by
  obtain⟨bm,o,b1,b2,b3,b4,b5⟩:=TB.bm
  exact⟨bm,o,b1,b2,b3,nbase b4,I.bk _ _ b4,b5⟩
 cases hc:codeAmong pos tv.toList with
 | none =>
  refine W.kla_makeFunction hcl I.ok.glob hg hcode C eP tr hc hgP hb fun c' ctv h' tk hx hge hlt hrec htb=>?_
  have hcs:∀{b:N9} {u:HO},H b=some u->b≠c'/\b≠h'.objs.size:=fun e=>by
   have q:=I.hok.lt e
   exact⟨OL (Ol q hge),OL (Ol q (OH hge (Nat.le_of_lt hlt)))⟩
  have hF:H h'.objs.size=none:=I.hok.fresh (OH hge (Nat.le_of_lt hlt))
  have hCn:H c'=none:=I.hok.fresh hge
  refine⟨h'.objs.size,c',ctv,_,upd (upd H c' (.tbl t.q true)) h'.objs.size (vj (W.kla_obj name t.q params body scope clos ((X.mg "__name__").getD .none) c' ctv)),rfl,?_,fun b u e=>?_,hF,av,?_⟩
  ·have kp:∀b o,b≠t.P->s.heap.get? b=some o->(h'.push (W.kla_obj name t.q params body scope clos ((X.mg "__name__").getD .none) c' ctv)).get? b=some o:=fun b o nb e=>Og _ (hx b o nb e)
   have nP:∀{b:N9},H b=none->b≠t.P:=fun e z=>by rw[z,hP] at e;cases e
   have st:∀{b:N9} {u:HO},H b=some u->upd (upd H c' (.tbl t.q true)) h'.objs.size (vj (W.kla_obj name t.q params body scope clos ((X.mg "__name__").getD .none) c' ctv)) b=some u:=fun e=>by rw[aq (hcs e).2,aq (hcs e).1];exact e
   refine I.un ⟨fun b o e n _ _=>kp b o (nP n) e,fun b o e n _ _=>⟨o.slots,kp b o (nP n) e⟩,fun b o e n _=>?_,fun b o e _=>?_,fun b xs e=>st e,fun b o u _ e=>st e,fun b q d e=>st e⟩ fun b u e=>?_
   ·have q:=Om e
    rw[aq (OL (Ol q (OH hge (Nat.le_of_lt hlt)))),aq (OL (Ol q hge))];exact n
   ·by_cases hb:b=t.P
    ·exact⟨_,by rw[hb];exact Og _ htb⟩
    ·exact⟨o,kp b o hb e⟩
   ·by_cases hbf:b=h'.objs.size
    ·subst hbf
     rw[av] at e
     cases e
     exact⟨Ox _ rfl,trivial,⟨_,Ox _ rfl⟩,fun _ _ _ _=>trivial⟩
    ·rw[aq hbf] at e
     by_cases hbc:b=c'
     ·subst hbc
      rw[av] at e
      cases e
      exact hrec.push _
     ·rw[aq hbc] at e
      by_cases hbP:b=t.P
      ·subst hbP
       rw[hP] at e
       cases e
       refine⟨_,Og _ htb,by rw[Array.toList_append];exact xi tr,fun pos' cv hcv=>?_⟩
       rw[Array.toList_append] at hcv
       rcases zh tr hcv with z | z
       ·obtain⟨c2,e1,e2⟩:=ent pos' cv z
        exact⟨c2,e1,st e2⟩
       ·exact⟨c',z,by rw[aq (OL hlt),av]⟩
      ·refine(I.hok b u e).stay (fun c v hcb r=>kp c v (fun z=>?_) r) (fun c r=>st r) (fun c xs r=>st r) fun c q d r=>st r
       rcases hcb with rfl | hcb
       ·exact hbP z
       ·rw[z,hP] at hcb;cases hcb
  ·rw[aq (hcs e).2,aq (hcs e).1];exact e
  ·rw[aq (OL hlt),av]
 | some cv =>
  obtain⟨c',rfl,hcC⟩:=ent pos cv hc
  refine W.kla_makeFunctionHit hcl I.ok.glob hg hcode C eP tr hc hb fun ctv h' tk hk hsz=>?_
  have hcs:∀{b:N9} {u:HO},H b=some u->b≠h'.objs.size:=fun e=>by
   exact OL (Ol (I.hok.lt e) hsz)
  have hF:H h'.objs.size=none:=I.hok.fresh hsz
  refine⟨h'.objs.size,c',ctv,_,upd H h'.objs.size (vj (W.kla_obj name t.q params body scope clos ((X.mg "__name__").getD .none) c' ctv)),rfl,?_,fun b u e=>?_,hF,av,?_⟩
  ·have kp:∀b o,s.heap.get? b=some o->(h'.push (W.kla_obj name t.q params body scope clos ((X.mg "__name__").getD .none) c' ctv)).get? b=some o:=fun b o e=>Og _ (hk b o e)
   have st:∀{b:N9} {u:HO},H b=some u->upd H h'.objs.size (vj (W.kla_obj name t.q params body scope clos ((X.mg "__name__").getD .none) c' ctv)) b=some u:=fun e=>by rw[aq (hcs e)];exact e
   refine I.un ⟨fun b o e n _ _=>kp b o e,fun b o e n _ _=>⟨o.slots,kp b o e⟩,fun b o e n _=>?_,fun b o e _=>⟨o,kp b o e⟩,fun b xs e=>st e,fun b o u _ e=>st e,fun b q d e=>st e⟩ fun b u e=>?_
   ·rw[aq (OL (Ol (Om e) hsz))];exact n
   ·by_cases hbf:b=h'.objs.size
    ·subst hbf
     rw[av] at e
     cases e
     exact⟨Ox _ rfl,trivial,⟨_,Ox _ rfl⟩,fun _ _ _ _=>trivial⟩
    ·rw[aq hbf] at e
     exact(I.hok b u e).stay (fun c v _ r=>kp c v r) (fun c r=>st r) (fun c xs r=>st r) fun c q d r=>st r
  ·rw[aq (hcs e)];exact e
  ·rw[aq (hcs hcC)];exact hcC
end
theorem uv{α:Type}:∀{l:List (Str×α)} {x:Str} {u:α},(l.map (·.1)).Nodup->(x,u)∈l->l.lookup x=some u
 | (y,v)::l,x,u,nd,h=>by
  rw[Pb,List.nodup_cons] at nd
  rw[List.lookup_cons]
  rcases Oj.mp h with e | h
  ·cases e;simp
  ·have hn:(x==y)=false:=OP.mpr fun z=>nd.1 (List.mem_map.mpr ⟨(x,u),h,z⟩)
   rw[hn]
   exact uv nd.2 h
def sx(cl:List (Str×N9))(b:N9):Bool:=cl.any fun p=>p.2==b
def ti(cl:List (Str×N9))(H:Hp):Hp:=fun b=>if sx cl b then none else H b
def uO(cl:List (Str×N9))(H H2:Hp):Hp:=fun b=>if sx cl b then H b else H2 b
theorem CN{cl:List (Str×N9)}{x:Str}{c:N9}(h:cl.lookup x=some c):sx cl c=true:=List.any_eq_true.mpr ⟨(x,c),O0 h,by simp⟩
structure tE (N ps:List Str) (sc:Scope) (cl:List (Str×N9)):Prop where
 kind:sc.kind=.function
 co:sc.isCoroutine=false
 gen:sc.isGenerator=false
 nd:N.Nodup
 pre:N.take ps.length=ps
 par:∀x∈ps,sc.names.lookup x=some .local
 nocell:∀y∈sc.names,y.2≠.cell
 fre:∀x∈N.drop ps.length,sc.names.lookup x=some .free
 has:∀x,sc.names.lookup x=some .free->∃c,cl.lookup x=some c
 ndc:(cl.map (·.1)).Nodup
 inj:∀x y c,cl.lookup x=some c->cl.lookup y=some c->x=y
def wR(H:Hp)(N ps:List Str)(cl:List (Str×N9))(caps:List V):Prop:=
 caps.length=N.length - ps.length/\(∀b,sx cl b=true->∃o u,H b=some (vj o)/\o.data=.cell (some u))/\∀(i:Nat) (x:Str) (v:V),(N.drop ps.length)[i]?=some x->caps[i]?=some v->∃c o u,cl.lookup x=some c/\H c=some (vj o)/\o.data=.cell (some u)/\RelV v u
theorem wR.to{H H':Hp}{N ps:List Str}{cl:List (Str×N9)}{caps:List V}(h:wR H N ps cl caps)(s:∀b o,H b=some (vj o)->H' b=some (vj o)):wR H' N ps cl caps:=by
 obtain⟨h1,h2,h3⟩:=h
 refine⟨h1,fun b hb=>?_,fun i x v q1 q2=>?_⟩
 ·obtain⟨o,u,e,d⟩:=h2 b hb
  exact⟨o,u,s b o e,d⟩
 ·obtain⟨c,o,u,e1,e2,r⟩:=h3 i x v q1 q2
  exact⟨c,o,u,e1,s c o e2,r⟩
noncomputable def y_(CX:AK)(P:Oh)(w:Ot)(K:N_)(mg:Str->N7 N8)(base:OC)(N:List Str)(qual:Str)(scope:Scope)(cl:List (Str×N9))(f:N9)(cd:N8)(A:OJ)(outer:List Env)(s:Oa)(H:Hp)(E:XK):Cx where
 prog:=P
 w:=w
 K:=K
 mg:=mg
 base:=base
 A:=A.deeper (W.envX qual scope s.heap.objs.size f cd cl)
 N:=N
 s₀:=s
 H₀:=ti cl H
 env:=W.envX qual scope s.heap.objs.size f cd cl
 outer:=outer
 stack:=W.envX qual scope s.heap.objs.size f cd cl::outer
 ex:=[]
 calm:=true
 fn:=fun _=>false
 pn:=[]
 xe:=fun e s'=>wpAny (model P w) (A.deeper (W.envX qual scope s.heap.objs.size f cd cl)) (leaving (W.envX qual scope s.heap.objs.size f cd cl) e) (fun _ s''=>CX outer H s E e s'') (fun e' s''=>CX outer H s E e' s'') s'
theorem JE {CX:AK} {P:Oh} {w:Ot} {K:N_} {mg:Str->N7 N8} {base:OC} {k:Nat} {f c':N9} {name qual:Str} {params:Arguments} {body:OG} {scope:Scope} {cl:List (Str×N9)} {pm ctv:N8} {N ps:List Str} {sp:Sp}
    (S:tE N ps scope cl) (len:∀vs H Q E,sp vs H Q E->vs.length=ps.length)
    (pre:∀vs H Q E,sp vs H Q E->H f=some (vj (W.kla_obj name qual params body scope cl pm c' ctv))/\H c'=some (.tbl qual true))
    (hbody:∀(A:OJ) (outer:List Env) (s:Oa) (H:Hp) (vs:List V) (Q:VK) (E:XK),rO k (A.deeper (W.envX qual scope s.heap.objs.size f (.ref c') cl))->xW P w K mg base A outer s H->sp vs H Q E ->
      ∃caps t,wR H N ps cl caps/\PE (y_ CX P w K mg base N qual scope cl f (.ref c') A outer s H E) body t/\t ((vs++caps).map some) (ti cl H) fun v H2=>(∀b u,H2 b=some u->uO cl H H2 b=some u)->Q v (uO cl H H2)) :
    k6 P w K mg base CX (k+1) f (W.kla_fn name qual params body scope cl pm (.ref c') ctv) ps sp:=by
  refine⟨len,fun A outer s H args us vs Q E hr e0 hb r hsp=>?_⟩
  have hl:=len _ _ _ _ hsp
  obtain⟨hf,hc'⟩:=pre _ _ _ _ hsp
  obtain⟨caps,t,⟨cl1,cl2,cl3⟩,ht,hq⟩:=hbody A outer s H vs Q E (hr.deeper _) e0 hsp
  have lim:s.heap.NoLimit:=e0.mod.nolimit.keeps fun b o e=>(e0.bs b o e).1
  have ndP:ps.Nodup:=by rw[<- S.pre];exact S.nd.sublist (List.take_sublist _ _)
  have hpl:ps.length<=N.length:=by have:=congrArg List.length S.pre;rw[Pj] at this;omega
  have hul:us.length=ps.length:=by rw[<- r.length];exact hl
  have dr:∀{b:N9} {u:HO},H b=some u->(∀o,u≠vj o)->sx cl b=false:=fun {b u} e n=>by
    cases q:sx cl b with
    | false=>rfl
    | true=>obtain⟨o,v,z,_⟩:=cl2 b q;rw[e] at z;cases z;exact OA rfl (n o)
  have dk:∀{b:N9} {u:HO},H b=some u->(∀o,u≠vj o)->ti cl H b=some u:=fun {b u} e n=>by
    show(if sx cl b then none else H b)=_
    rw[dr e n];exact e
  have dn:∀{b:N9},H b=none->ti cl H b=none:=fun {b} e=>by
    show(if sx cl b then none else H b)=_
    split
    · rfl
    · exact e
  refine W.kla_callFunE hr.depth (e0.hok f _ hf).1 rfl S.co S.gen rfl (show tK P w H s.heap c' (.tbl qual true) from e0.hok c' _ hc') (hb _ _ _ _ ?_)
  refine wpAny_newFunctionEnv S.nocell (fun ⟨n,v⟩ hy=>S.par n (List.of_mem_zip hy).1) (fun h₁ hns hsb=>⟨lim.fresh _ hsb,?_⟩) S.kind
  show codeAny _ _ (.expr body (W.envX qual scope s.heap.objs.size f (.ref c') cl)) _ _
  have hk:∀b o,s.heap.get? b=some o->h₁.get? b=some o:=fun b o e=>hsb.extBut b o (OL (Om e)) (Og _ e)
  have noA:∀b:N9,b∉(y_ CX P w K mg base N qual scope cl f (.ref c') A outer s H E).ex:=fun b z=>OA (show b∈([]:List N9) from z) (by simp)
  have hcell:∀x c,cl.lookup x=some c->∃u,h₁.IsCell c (some u):=fun x c e=>by
    obtain⟨o,u,z,d⟩:=cl2 c (CN e)
    exact⟨u,o,hk _ _ (e0.hok c _ z).1,d⟩
  have I:L2.Inv (y_ CX P w K mg base N qual scope cl f (.ref c') A outer s H E) [] ((vs++caps).map some) (ti cl H) {s with heap:=h₁,toks:=s.toks+(ps.zip us).length}:=by
    refine⟨⟨e0.mod,S.kind,rfl,rfl,Oo _,S.inj,fun y hy=>?_,fun y c z _=>(by cases z),fun _=>hr.hd,Around.frames_deeper e0.frames,.inr ⟨rfl,rfl⟩,fun b z=>OA z (noA b),fun b o e=>⟨(e0.bs b o e).1,dn (e0.bs b o e).2⟩,e0.bsz,fun b _ _=>noA b,fun b z=>OA z (noA b),e0.funs,fun b hb=>dn (e0.frf b hb)⟩,
      rfl,e0.bare,Un.kept hk,⟨_,hns,fun i y v h1 h2 h3=>?_⟩,fun y c h=>let ⟨u,z⟩:=hcell y c h;⟨_,z⟩,dn (e0.hok.fresh (Oo _)),fun y c h=>?_,fun p hp=>OA (show p∈([]:List (N9×Obj)) from hp) (by simp),fun b u e=>?_,?_⟩
    · have hy:scope.names.lookup y=some .cell\/scope.names.lookup y=some .free:=hy
      rcases hy with hy | hy
      · exact OA rfl (S.nocell _ (O0 hy))
      · exact S.has y hy
    · rw[O6] at h2
      cases e:(vs++caps)[i]? with
      | none=>rw[e] at h2;cases h2
      | some z =>
        rw[e] at h2
        cases h2
        by_cases hi:i<vs.length
        · rw[O4 hi] at e
          obtain⟨u,hu,rv⟩:=r.get e
          have hp:ps[i]?=some y:=by rw[<- S.pre,List.getElem?_take_of_lt (by omega)];exact h1
          refine⟨u,rv,.inl ⟨S.par y (O7 hp),?_⟩⟩
          show(ps.zip us).reverse.lookup y=some u
          refine uv ?_ ?_
          · rw[List.map_reverse,List.map_fst_zip (by omega),List.Nodup,List.pairwise_reverse];exact ndP.imp fun h=>Ne.symm h
          · rw[List.mem_reverse]
            exact O7 (i:=i) (List.getElem?_zip_eq_some.mpr ⟨hp,hu⟩)
        · rw[OT (by omega)] at e
          have hd:(N.drop ps.length)[i - vs.length]?=some y:=by rw[List.getElem?_drop,show ps.length+(i - vs.length)=i by omega];exact h1
          obtain⟨c,o,u,h4,h5,h6,h7⟩:=cl3 _ y v hd e
          exact⟨u,h7,.inr ⟨.inr (S.fre y (O7 hd)),c,h4,o,hk _ _ (e0.hok c _ h5).1,h6⟩⟩
    · show(if sx cl c then none else H c)=none
      rw[CN (show cl.lookup y=some c from h)];rfl
    · have e':(if sx cl b then none else H b)=some u:=e
      cases q:sx cl b with
      | true=>rw[q] at e';cases e'
      | false =>
        rw[q] at e'
        exact(e0.hok b u e').stay (fun c v _ g=>hk c v g) (fun c g=>dk g fun o z=>by cases z) (fun c xs g=>dk g fun o z=>by cases z) fun c a d g=>dk g fun o z=>by cases z
    · show((vs++caps).map some).length=N.length
      rw[OK,OW,cl1,hl];omega
  refine W.kla_codeExpr (Pe (ht [] _ _ _ _ I hq) (fun u s' hs=>?_) fun e s' hs=>hs)
  obtain⟨v,H2,J,rv,q⟩:=hs
  have cellKept:∀{b:N9},sx cl b=true->∃o,H b=some (vj o)/\s'.heap.get? b=some o:=fun {b} hb=>by
    obtain⟨o,u',z,_⟩:=cl2 b hb
    have hfr:b∉vf outer:=fun m=>by rw[e0.frf b m] at z;cases z
    exact⟨o,z,J.base.keep b o (e0.hok b _ z).1 (by show(if sx cl b then none else H b)=none;rw[hb];rfl) hfr (noA b)⟩
  have bk:∀{b:N9} {u:HO},H2 b=some u->uO cl H H2 b=some u:=fun {b u} e=>by
    show(if sx cl b then H b else H2 b)=_
    cases qq:sx cl b with
    | false=>exact e
    | true =>
      obtain⟨p,hp,hpb⟩:=List.any_eq_true.mp qq
      have this:∃x,cl.lookup x=some b:=⟨p.1,uv S.ndc (by rw[<- Pn hpb];exact hp)⟩
      obtain⟨x,hx⟩:=this
      have:=J.freeC x b hx
      rw[this] at e;cases e
  have bc:∀{b:N9},sx cl b=true->uO cl H H2 b=H b:=fun {b} hb=>by show(if sx cl b then H b else H2 b)=_;rw[hb];rfl
  have bn:∀{b:N9},sx cl b=false->uO cl H H2 b=H2 b:=fun {b} hb=>by show(if sx cl b then H b else H2 b)=_;rw[hb];rfl
  refine⟨v,uO cl H H2,J.os,J.bare,⟨fun b o e n hf' hx=>J.base.keep b o e (dn n) hf' (noA b),fun b o e n hf' hx=>J.base.slot b o e (dn n) hf' (noA b),fun b o e n hx=>?_,fun b o e hx=>J.base.there b o e (noA b),fun b xs e=>bk (J.base.tups b xs (dk e fun o z=>by cases z)),fun b o u ny e=>?_,fun b a d e=>bk (J.base.tbls b a d (dk e fun o z=>by cases z))⟩,fun b u e=>?_,rv,q fun b u e=>bk e⟩
  · cases hb:sx cl b with
    | true=>rw[bc hb];exact n
    | false=>rw[bn hb];exact J.base.free b o e (dn n) (noA b)
  · cases hb:sx cl b with
    | true=>rw[bc hb];exact e
    | false =>
      rw[bn hb]
      refine J.base.frzs b o u ny ?_
      show(if sx cl b then none else H b)=_
      rw[hb];exact e
  · cases hb:sx cl b with
    | true =>
      obtain⟨o,z,g⟩:=cellKept hb
      rw[bc hb,z] at e
      cases e
      exact⟨g,trivial,⟨_,g⟩,fun _ _ _ _=>trivial⟩
    | false =>
      rw[bn hb] at e
      exact(J.hok b u e).stay (fun c v _ g=>g) (fun c g=>bk g) (fun c xs g=>bk g) fun c a d g=>bk g
end HW
namespace HW
open PySem
open Sem (wp)
section
variable{prog:Oh}{w:Ot}{A:OJ}{E:N8->Oa->Prop}{h:OC}{g:Array GenState}{d:Drawn}{t:Nat}{os:OsState}{a:N9}{o:Obj}{tk:Tok}
end
open Sem (wp)
section
variable{M:Model}{A:OJ}{E:N8->Oa->Prop}{h:OC}{g:Array GenState}{d:Drawn}{t:Nat}{os:OsState}{K:N_}{C Wz:N9}{newId nW:String}
theorem IC(T:IP K C Wz newId nW)(x:K.In h){b:N8}{Q:Bool->Oa->Prop}(hq:Q ((Value.ref C::.ref Wz::VE).contains b) ⟨h,g,d,t,os⟩):wpAny M A (isSubtype (.ref C) b) Q E ⟨h,g,d,t,os⟩:=by
 obtain⟨N,nm,q,bs,hdct,sn,sub,ab,col,dd,k0,k1,k2,k3,k5,mN,hqn,hh⟩:=T.own
 exact wpAny_isSubtype_exc (hh h x).1 hq
end
section
variable{prog:Oh}{w:Ot}{A:OJ}{E:N8->Oa->Prop}{h:OC}{g:Array GenState}{d:Drawn}{t:Nat}{os:OsState}{a:N9}{o:Obj}{tk:Tok}{K:N_}{C Wz:N9}{newId nW:String}
end
end HW
namespace HW
open PySem PySem.Spec PyProof.Rows L2
abbrev HE(X:Cx)(pins:List (N9×Obj))(E:N8->Oa->Prop):Cx:={X with pn:=X.pn++pins,xe:=E}
abbrev N0(X:Cx)(pins:List (N9×Obj))(e:N9):Cx:={X with A:=X.A.mark (some (.ref e)),calm:=false,pn:=X.pn++pins,xe:=fun _ _=>False}
abbrev LC(X:Cx)(pins:List (N9×Obj))(e:N9)(oe:Obj):Cx:={X with A:=X.A.mark (some (.ref e)),calm:=false,pn:=(X.pn++pins)++[(e,oe)],xe:=fun _ _=>False}
section
variable{X:Cx}{pins pins':List (N9×Obj)}{σ:L2.St}{H:Hp}{s:Oa}{E:N8->Oa->Prop}{e:N9}{oe:Obj}
theorem KD(I:L2.Inv X pins σ H s):L2.Inv (HE X pins E) [] σ H s:=
 ⟨⟨I.ok.mod,I.ok.kind,I.ok.glob,I.ok.blt,I.ok.above,I.ok.inj,I.ok.has,I.ok.cab,I.ok.hd,I.ok.frames,I.ok.stk,I.ok.exf,I.ok.bs,I.ok.bsz,I.ok.noex,I.ok.exfs,I.ok.funs,I.ok.frf⟩,I.os,I.bare,I.base,I.loc,I.cell,I.free,I.freeC,fun p hp=>I.pin p (by rw[OQ] at hp;exact hp),I.hok,I.len⟩
theorem Dr(I:L2.Inv (HE X pins E) pins' σ H s):L2.Inv X pins σ H s:=
 ⟨⟨I.ok.mod,I.ok.kind,I.ok.glob,I.ok.blt,I.ok.above,I.ok.inj,I.ok.has,I.ok.cab,I.ok.hd,I.ok.frames,I.ok.stk,I.ok.exf,I.ok.bs,I.ok.bsz,I.ok.noex,I.ok.exfs,I.ok.funs,I.ok.frf⟩,I.os,I.bare,I.base,I.loc,I.cell,I.free,I.freeC,fun p hp=>I.pin p (O3 _ hp),I.hok,I.len⟩
theorem KH(I:L2.Inv X pins σ H s)(e:N9):L2.Inv (N0 X pins e) [] σ H s:=
 ⟨⟨I.ok.mod,I.ok.kind,I.ok.glob,I.ok.blt,I.ok.above,I.ok.inj,I.ok.has,I.ok.cab,fun z=>(by cases z),I.ok.frames,I.ok.stk,I.ok.exf,I.ok.bs,I.ok.bsz,I.ok.noex,I.ok.exfs,I.ok.funs,I.ok.frf⟩,I.os,I.bare,I.base,I.loc,I.cell,I.free,I.freeC,fun p hp=>I.pin p (by rw[OQ] at hp;exact hp),I.hok,I.len⟩
theorem KU(I:L2.Inv X pins σ H s)(he:s.heap.get? e=some oe)(hn:H e=none)(hl:e≠X.env.locals)(hf:e∉X.fs)(hd:∀v,oe.data≠.cell v):L2.Inv (LC X pins e oe) [] σ H s:=
 ⟨⟨I.ok.mod,I.ok.kind,I.ok.glob,I.ok.blt,I.ok.above,I.ok.inj,I.ok.has,I.ok.cab,fun z=>(by cases z),I.ok.frames,I.ok.stk,I.ok.exf,I.ok.bs,I.ok.bsz,I.ok.noex,I.ok.exfs,I.ok.funs,I.ok.frf⟩,I.os,I.bare,I.base,I.loc,I.cell,I.free,I.freeC,fun p hp=>by
  rw[OQ] at hp
  rcases Pi.mp hp with z | z
  ·exact I.pin p z
  ·rw[Od.mp z]
   exact⟨he,hn,hl,hf,hd⟩,I.hok,I.len⟩
theorem Hh(I:L2.Inv (LC X pins e oe) pins' σ H s)(hd:X.calm=true->X.A.handled=none):L2.Inv X pins σ H s:=
 ⟨⟨I.ok.mod,I.ok.kind,I.ok.glob,I.ok.blt,I.ok.above,I.ok.inj,I.ok.has,I.ok.cab,hd,I.ok.frames,I.ok.stk,I.ok.exf,I.ok.bs,I.ok.bsz,I.ok.noex,I.ok.exfs,I.ok.funs,I.ok.frf⟩,I.os,I.bare,I.base,I.loc,I.cell,I.free,I.freeC,fun p hp=>I.pin p (O3 _ (O3 _ hp)),I.hok,I.len⟩
end
section
variable{M:Model}{A:OJ}{E:N8->Oa->Prop}{h:OC}{g:Array GenState}{d:Drawn}{t:Nat}{os:OsState}{K:N_}{C Wz e:N9}{newId nW:String}{oe:Obj}
theorem EM(T:IP K C Wz newId nW)(x:K.In h){Q:Bool->Oa->Prop}(he:h.get? e=some oe)(hcls:oe.cls=.ref C)(hq:Q true ⟨h,g,d,t,os⟩):wpAny M A (excMatches (.ref e) (.ref Wz)) Q E ⟨h,g,d,t,os⟩:=by
 obtain⟨N',nm',q',bs',hdct',sn',sub',ab',col',dd',j0,j1,j2,j3,j5,mN',hqn',hh'⟩:=T.base
 have hW:=(hh' h x).1
 have hcB:(Value.ref Wz::VE).contains (.type "BaseException")=true:=rfl
 have hcW:(Value.ref C::.ref Wz::VE).contains (.ref Wz)=true:=by simp
 have f:=tc_notTuple
 unfold excMatches
 repeat (first | (with_reducible refine wpAny_loadPart_at he ?_;rw[hcls]) | with_reducible refine wpAny_loadPart_at hW ?_ | (with_reducible refine wpAny_isSubtype_exc hW ?_;rw[hcB]) | (with_reducible refine IC T x ?_;rw[hcW]) | wp_step)
 exact hq
end
section
variable{X:Cx}{ca:Nat->N9}{Wz:N9}{newId nW:String}{x n:Str}{np apos hpos pos:Pos}{tg e0:OG}{b₀:OE}{suite:List OE}{fx:XD}{stf:D->R->N7 R}{gs:Nat->Nat->R->N7 Out}
end
section
variable{X:Cx}{pos p:Pos}{e:OG}{es:List OG}{k i:Nat}{f c':N9}{G:LD->OD}{F:R->N7 LD}{name qual:Str}{params:Arguments}{body:OG}{scope:Scope}{cl:List (Str×N9)}{pm ctv:N8}{ps:List Str}
theorem GR{M:Model}(h:OC)(x:h.get? f=some (W.kla_obj name qual params body scope cl pm c' ctv)):∃k,(k=Keeper.frame\/k=Keeper.machine\/k=Keeper.boundFrame)/\W.Looks M h (keeperOf (.ref f)) k:=
 ⟨.frame,.inl rfl,(W.Looks.ld (part:=none) x).andThen .now⟩
end
section
variable{X:Cx}{pins:List (N9×Obj)}{σ:L2.St}{H:Hp}{s:Oa}{pos:Pos}
theorem qO{t:tG}{ts:List tG}{params:Arguments}{body:OG}{scope:Scope}{clos:List (Str×N9)}(TB:tR X.mg ts X.base)(ht:t∈ts)(hcode:X.env.code=.ref t.c)(hq:X.env.qual ++ "<lambda>" = t.q)(hcl:closureFor scope X.env=pure clos)(hdef:defaultsOf params X.env=([],[]):=by rfl) :
  PE X (.Lambda params body scope pos) fun σ H Q=>H t.P=some (.tbl t.q false)/\∀f c' ctv pm H',i9 H H'->H f=none->H' f=some (vj (W.kla_obj "<lambda>" t.q params body scope clos pm c' ctv))->H' c'=some (.tbl t.q true)->Q (.ref f) H':=by
 intro pins s σ H Q I ⟨hP,q⟩
 refine W.kla_eval hdef ?_
 rw[hq]
 refine sh (F_ I TB ht hP hcode hcl) fun v s' ⟨f,c',ctv,pm,H',ev,I',sm,hn,h1,h2⟩=>?_
 exact⟨.ref f,H',I',ev,q f c' ctv pm H' sm hn h1 h2⟩
def vY(cl:List (Str×N9))(h:OC)(H:Hp):Hp:=fun b=>if sx cl b then (h.get? b).map vj else H b
theorem xj{cl:List (Str×N9)}{h:OC}{b:N9}{o:Obj}(hb:sx cl b=true)(e:h.get? b=some o):vY cl h H b=some (vj o):=by
 show(if sx cl b then (h.get? b).map vj else H b)=_
 rw[Of hb,e];rfl
theorem ud{cl:List (Str×N9)}{h:OC}{b:N9}(hb:sx cl b=false):vY cl h H b=H b:=by
 show(if sx cl b then (h.get? b).map vj else H b)=_
 rw[Ov (by rw[hb];decide)]
theorem ua{cl:List (Str×N9)}{b:N9}(hb:sx cl b=false):ti cl H b=H b:=by
 show(if sx cl b then none else H b)=_
 rw[Ov (by rw[hb];decide)]
theorem Dp{cl:List (Str×N9)}{b:N9}(hb:sx cl b=true):ti cl H b=none:=by
 show(if sx cl b then none else H b)=_
 rw[Of hb]
theorem Gw{k:Nat}{f:N9}{fd:OV}{ps:List Str}{sp:Sp}{cl:List (Str×N9)}{us:List N8}{vs:List V}{Q:VK}(F:k6 X.prog X.w X.K X.mg X.base rV k f fd ps sp)(hr:rO k X.A)(hb:Binds X.K fd ps [])(hfn:∀x,X.fn x=true)(hcl:∀b,sx cl b=true->∃x,X.env.cells.lookup x=some b)
  (I:L2.Inv X pins σ H s) (r:l4 vs us) (h:sp vs (vY cl s.heap H) (fun v H'=>Q v (ti cl H')) E0):wpAny (model X.prog X.w) X.A (call (.ref f) us) (EP X pins σ Q) X.xe s:=by
 have cellO:∀{b:N9},sx cl b=true->∃o v,s.heap.get? b=some o/\o.data=.cell v/\H b=none/\X.s₀.heap.objs.size<=b:=fun {b} hb=>by
  obtain⟨x,hx⟩:=hcl b hb
  obtain⟨v,o,e,d⟩:=I.cell x b hx
  exact⟨o,v,e,d,I.freeC x b hx,I.ok.cab x b (hfn x) hx⟩
 have nC:∀{b:N9} {u:HO},H b=some u->sx cl b=false:=fun {b u} e=>by
  cases q:sx cl b with
  | false=>rfl
  | true=>obtain⟨_,_,_,_,z,_⟩:=cellO q;rw[e] at z;cases z
 have tk:∀{b:N9} {u:HO},H b=some u->vY cl s.heap H b=some u:=fun e=>by rw[ud (nC e)];exact e
 have hok:wF X.prog X.w (vY cl s.heap H) s.heap:=fun b u e=>by
  cases q:sx cl b with
  | true =>
   obtain⟨o,_,g,_⟩:=cellO q
   rw[xj q g] at e
   cases e
   exact⟨g,trivial,⟨_,g⟩,fun _ _ _ _=>trivial⟩
  | false =>
   rw[ud q] at e
   exact(I.hok b u e).stay (fun _ _ _ g=>g) (fun c g=>tk g) (fun c xs g=>tk g) fun c a d g=>tk g
 have low:∀{b:N9},b<X.s₀.heap.objs.size->sx cl b=false:=fun {b} hb=>by
  cases q:sx cl b with
  | false=>rfl
  | true=>obtain⟨_,_,_,_,_,z⟩:=cellO q;exact OA (Ol hb z) (OX _)
 have e0:xW X.prog X.w X.K X.mg X.base X.A X.stack s (vY cl s.heap H):=by
  have z:=I.env0
  refine⟨z.frames,z.mod,fun b o e=>⟨(z.bs b o e).1,?_⟩,z.bsz,z.funs,fun b hb=>?_,hok,z.bare⟩
  ·rw[ud (low (Ol (Om e) I.ok.bsz))];exact(z.bs b o e).2
  ·have n:=z.frf b hb
   cases q:sx cl b with
   | false=>rw[ud q];exact n
   | true =>
    obtain⟨x,hx⟩:=hcl b q
    rcases Oj.mp (I.stkSub b hb) with m | m
    ·exact OA m (I.cne x b hx)
    ·obtain⟨_,o,ho,_⟩:=I.ok.funs.mem m
     rw[low (Om ho)] at q;cases q
 have hl:us.length=ps.length:=by rw[<- r.length];exact F.len _ _ _ _ h
 refine wpAny_call (codeAny_mono (F.run X.A X.stack s (vY cl s.heap H) ⟨us,[]⟩ us vs _ E0 hr e0 (by have:=hb s us I.kIn (by simpa using hl);simpa using this) r h) fun rr s' hq=>?_)
 cases rr with
 | error e=>exact xE pins σ H s e s' I hq
 | ok fl =>
  cases fl with
  | next=>exact False.elim hq
  | brk=>exact False.elim hq
  | cont=>exact False.elim hq
  | ret u =>
   obtain⟨v,H',os,bare,un,hok',rv,q⟩:=hq
   obtain⟨hh,g,d,tt,os'⟩:=s'
   obtain rfl:os'=s.os:=os
   have ck:∀{b:N9},sx cl b=true->∃o,s.heap.get? b=some o/\H' b=some (vj o)/\hh.get? b=some o:=fun {b} hb=>by
    obtain⟨o,_,e,_⟩:=cellO hb
    have z:=un.frzs b o _ (fun y w=>by cases w) (xj hb e)
    exact⟨o,e,z,(hok' b _ z).1⟩
   have bk:∀{b:N9} {u:HO},H' b=some u->(∀o,u≠vj o)->ti cl H' b=some u:=fun {b u} e n=>by
    cases qq:sx cl b with
    | false=>rw[ua qq];exact e
    | true=>obtain⟨o,_,z,_⟩:=ck qq;rw[e] at z;cases z;exact OA rfl (n o)
   refine⟨v,ti cl H',I.call (h':=hh) (g':=g) (d':=d) (t':=tt) (ch:=[]) ⟨fun b o e n hf hx=>?_,fun b o e n hf hx=>?_,fun b o e n hx=>?_,fun b o e hx=>un.there b o e hx,fun b xs e=>bk (un.tups b xs (tk e)) (fun o z=>by cases z),fun b o u ny e=>?_,fun b a d' e=>bk (un.tbls b a d' (tk e)) (fun o z=>by cases z)⟩ (fun b u e=>?_) bare (fun b z=>OA z (by simp)),rv,q⟩
   ·cases qq:sx cl b with
    | true=>obtain⟨o',e1,_,e2⟩:=ck qq;rw[e] at e1;cases e1;exact e2
    | false=>exact un.keep b o e (by rw[ud qq];exact n) hf hx
   ·cases qq:sx cl b with
    | true=>obtain⟨o',e1,_,e2⟩:=ck qq;rw[e] at e1;cases e1;exact⟨o.slots,e2⟩
    | false=>exact un.slot b o e (by rw[ud qq];exact n) hf hx
   ·cases qq:sx cl b with
    | true=>exact Dp qq
    | false=>rw[ua qq];exact un.free b o e (by rw[ud qq];exact n) hx
   ·rw[ua (nC e)];exact un.frzs b o u ny (tk e)
   ·cases qq:sx cl b with
    | true=>rw[Dp qq] at e;cases e
    | false =>
     rw[ua qq] at e
     exact(hok' b u e).stay (fun _ _ _ g=>g) (fun c g=>bk g fun o z=>by cases z) (fun c xs g=>bk g fun o z=>by cases z) fun c a d g=>bk g fun o z=>by cases z
end
theorem EN {l:W.OpenLaw} {n k:Nat} {q:Oh} {loose:List Str} {XP:(Str->N7 N8)->OC->Prop} {YP:Ot->OC->Prop} {d:DefRec} {K:Params->N_} {CX:Ot->AK} {sp:Ot->List tG->Sp} {x:Str}
    (hn:l.most=some n) (hn2:n<=sizeLine) (hdf:d.params.defaults=[]) (hr:rO k callerA)
    (hY:∀(w:Ot) (h:OC),YP w h->(K w.params).In h)
    (F:∀(w:Ot) (mg:Str->N7 N8) (fa:N9) (h:OC),(K w.params).In h->h.Ns mainGlobals mg->mg d.name=some (.ref fa) ->
      ∃(ts:List tG) (fd:OV),(∀t∈ts,(K w.params).lookup t.P=none/\∃y d',(recsOf q).find? (fun e=>e.name==y)=some d'/\W.tabIn (K w.params) y=some (t.c,t.P))/\(∀(s:Oa) (u:N8),BindsTo s fd ⟨[u],[]⟩ [(x,u)]) /\
        ∀base:OC,(K w.params).In base->base.Ns mainGlobals mg->tR mg ts base->k6 l.prog w (K w.params) mg base (CX w) k fa fd [x] (sp w ts))
    (hsp:∀(w:Ot) (ts:List tG) (H:Hp) (a:N9) (ns:List Int),ns.length<=n->Dj ts a H->(∀t∈ts,t.P≠a)->uJ (K w.params) H a (ns.map V.int)->sp w ts [.ref a] H (fun v _=>v=.bl true) fun _ _ _=>False)
    (hCX:∀(w:Ot) (H:Hp) (s:Oa) (e:N8) (s':Oa),CX w [] H s (fun _ _ _=>False) e s'->False) :
    W.WalkO q loose XP YP l.row.toRowW d [] (fun f vs=>PySem.call f vs):=by
  refine Att.attach_call hn hdf fun w s₀ s₁ mg mb fa o pm cd doc a vs ns G Y ho hd hcd hmg hobj hints hlen hg=>?_
  have KX:=hY w _ Y
  obtain⟨ts,fd,hts,hb,hF⟩:=F w mg fa _ KX G.T.g hmg
  refine DQ KX G.T.g G.T.b G.T.builtins G.T.nolimit hg hobj hints (OH hlen hn2) hr (fun t ht=>?_) (fun t ht=>(hts t ht).1) ?_ hF hb (fun H hO hP hS=>hsp w ts H a ns hlen hO hP hS) fun H e s'=>hCX w H s₁ e s'
  · obtain⟨_,y,d',h1,h2⟩:=hts t ht
    exact W.tab_of G.T KX h1 h2
  · obtain⟨bm,ob,b1,b2,b3,b4,b5,b6⟩:=G.T.bmain
    refine⟨bm,ob,b1,b2,fun z=>?_,b3,b4,b5,b6⟩
    obtain⟨o',es,ep,e,hd',_⟩:=G.T.g
    rw[z,e] at b3;cases b3;rw[hd'] at b6;cases b6
section
variable{X:Cx}{pins:List (N9×Obj)}{σ:L2.St}{H Hp':Hp}{s:Oa}{pos:Pos}
structure Di (X:Cx) (cl:List (Str×N9)) (σ:L2.St) (H H':Hp):Prop where
 out:∀b,sx cl b=false->H' b=H b
 cel:∀b,sx cl b=true->H b=none/\∃o v,H' b=some (vj o)/\o.data=.cell v
 val:∀(i:Nat) (x:Str) (c:N9) (v:V),X.N[i]?=some x->σ[i]?=some (some v)->cl.lookup x=some c->∃o u,H' c=some (vj o)/\o.data=.cell (some u)/\RelV v u
structure FP (X:Cx) (cl:List (Str×N9)):Prop where
 fn:∀x,X.fn x=true
 ndc:(cl.map (·.1)).Nodup
 of:∀x c,cl.lookup x=some c->X.env.cells.lookup x=some c/\X.env.scope.names.lookup x=some .cell
theorem FP.lk{cl:List (Str×N9)}(o:FP X cl):∀b,sx cl b=true->∃x,X.env.cells.lookup x=some b:=fun b hb=>by
 obtain⟨p,hp,e⟩:=List.any_eq_true.mp hb
 exact⟨p.1,(o.of p.1 b (uv o.ndc (by rw[<- Pn e];exact hp))).1⟩
theorem E7{cl:List (Str×N9)}(o:FP X cl)(I:L2.Inv X pins σ H s):Di X cl σ H (vY cl s.heap H):=by
 refine⟨fun b hb=>ud hb,fun b hb=>?_,fun i x c v h1 h2 h3=>?_⟩
 ·obtain⟨x,hx⟩:=o.lk b hb
  obtain⟨v,ob,e,d⟩:=I.cell x b hx
  exact⟨I.freeC x b hx,ob,v,xj hb e,d⟩
 ·obtain⟨hx,hk⟩:=o.of x c h3
  obtain⟨m,_,hl⟩:=I.loc
  obtain⟨u,rv,lk⟩:=hl i x v h1 h2 (.inr (.inl hk))
  rcases lk with ⟨z,_⟩ | ⟨_,c2,e2,ob,g,d⟩
  ·exact OA (show some NameKind.cell=some NameKind.local from hk.symm.trans z) (by simp)
  ·rw[hx] at e2
   cases e2
   exact⟨ob,u,xj (CN h3) g,d,rv⟩
theorem oR{x:Str}{e:OG}{es:List OG}{k:Nat}{f:N9}{fd:OV}{ps:List Str}{sp:Sp}{t:TA}{p:Pos}{cl:List (Str×N9)}(F:k6 X.prog X.w X.K X.mg X.base rV k f fd ps sp)(hr:rO k X.A)(hg:Gl X x)(hm:X.mg x=some (.ref f))(hk:W.keepIn X.K (.ref f)=true)(hb:Binds X.K fd ps [])(o:FP X cl)
  (ha:PA X (e::es) t) (hdb:(x==("__debug__" : Str))=false:=by decide) (he:starEach (e::es) X.env=(false,eval e X.env)::starEach es X.env:=by rfl) (hpl:(backTo pos (starEach es X.env)).any (·.1)=false:=by rfl) :
  PE X (.Call (.Name x p) (e::es) [] pos) fun σ H Q=>t σ H fun vs H1=>∀H2,Di X cl σ H1 H2->sp vs H2 (fun v H'=>Q v (ti cl H')) E0:=by
 intro pins s σ H Q I h
 refine Pc (fu I hg hm ?_ hdb)
 refine W.callWith_K (h₀:=X.base) I.ok.mod.kin hk (sh (ha pos pins s σ H _ I h) fun us s1 ⟨vs,H1,I1,r,q⟩=>⟨I1.kIn,?_⟩) he hpl
 exact Gw F hr hb o.fn o.lk I1 r (q _ (E7 o I1))
end
section
variable{K:N_}{H H':Hp}
theorem vg.clo{a:N9}{xs:List V}(s:∀b u,H b=some u->(∀o,u≠vj o)->H' b=some u)(h:vg K H a xs):vg K H' a xs:=by
 rcases h with (h | ⟨o,h⟩) | h
 ·exact .inl (.inl (s _ _ h fun o z=>by cases z))
 ·exact .inl (.inr ⟨o,s _ _ h fun o z=>by cases z⟩)
 ·exact .inr h
theorem uJ.clo{a:N9}{xs:List V}(s:∀b u,H b=some u->(∀o,u≠vj o)->H' b=some u)(h:uJ K H a xs):uJ K H' a xs:=by
 rcases h with (h | ⟨o,h⟩) | h
 ·exact .inl (.inl (s _ _ h fun o z=>by cases z))
 ·exact .inl (.inr ⟨o,s _ _ h fun o z=>by cases z⟩)
 ·exact .inr h
theorem Hr.clo{k a:Nat}{ks:List Str}{vs:List V}(s:∀b u,H b=some u->(∀o,u≠vj o)->H' b=some u)(h:Hr H k a ks vs):Hr H' k a ks vs:=by
 match k,h with
 | 0,⟨z,its,n,r,q⟩=>exact⟨z,its,n,r,s _ _ q fun o z=>by cases z⟩
 | 1,⟨z,q⟩=>exact⟨z,s _ _ q fun o z=>by cases z⟩
 | C+2,⟨z,dx,q⟩=>exact⟨z,dx,s _ _ q fun o z=>by cases z⟩
mutual
theorem Rep.clo(s:∀b u,H b=some u->(∀o,u≠vj o)->H' b=some u):∀{d:D} {v:V},Rep K H d v->Rep K H' d v
 | .non,_,h=>h
 | .bl _,_,h=>h
 | .int _,_,h=>h
 | .str _,_,h=>h
 | .tup ds,_,h=>by
  obtain⟨a,xs,e,q,r⟩:=h
  exact⟨a,xs,e,vg.clo s q,i8.clo s r⟩
 | .lst ds,_,h=>by
  obtain⟨a,xs,e,q,r⟩:=h
  exact⟨a,xs,e,s _ _ q (fun o z=>by cases z),i8.clo s r⟩
 | .fro ds,_,h=>by
  obtain⟨a,xs,e,q,r⟩:=h
  exact⟨a,xs,e,uJ.clo s q,i8.clo s r⟩
 | .obj ..,_,h=>by
  obtain⟨xs,e,q,r⟩:=h
  exact⟨xs,e,q.clo s,i8.clo s r⟩
 | .rf _,_,h=>h
theorem i8.clo(s:∀b u,H b=some u->(∀o,u≠vj o)->H' b=some u):∀{ds:LD} {vs:List V},i8 K H ds vs->i8 K H' ds vs
 | [],_,h=>h
 | d::ds,_,h=>by
  obtain⟨v,r,e,q,t⟩:=h
  exact⟨v,r,e,Rep.clo s q,i8.clo s t⟩
end
theorem yL{cl:List (Str×N9)}(hC:∀b,sx cl b=true->∃o,H b=some (vj o)):∀b u,H b=some u->(∀o,u≠vj o)->ti cl H b=some u:=fun b u e n=>by
 cases q:sx cl b with
 | false=>rw[ua q];exact e
 | true =>
  obtain⟨o,z⟩:=hC b q
  rw[e] at z
  exact OA (Ow z) (n o)
theorem pe:∀{ds:LD} {vs:List V},i8 K H ds vs->se K H (ds.map some) (vs.map some):=fun {ds vs} r=>by
 refine⟨by rw[OK,OK,r.length];exact Oo _,fun i d h=>?_⟩
 rw[O6] at h
 obtain⟨d',e,q⟩:=rW h
 cases q
 obtain⟨v,h1,h2⟩:=r.get e
 exact⟨v,by rw[O6,h1];rfl,h2⟩
end
section
variable{P:Oh}{w:Ot}{K:N_}{mg:Str->N7 N8}{base:OC}{N ps:List Str}{qual:Str}{scope:Scope}{cl:List (Str×N9)}{f:N9}{cd:N8}{A:OJ}{outer:List Env}{s:Oa}{H H2:Hp}{E:XK}{C:N9}{caps:List V}
theorem Iy(S:tE N ps scope cl)(hcap:wR H N ps cl caps)(hokS:wF P w H s.heap)(frf:∀b∈vf outer,H b=none)(hE:E (.ref C) none (uO cl H H2))(hS:i9 (ti cl H) H2):XW (y_ (xT P w) P w K mg base N qual scope cl f cd A outer s H E) C H2:=fun e s' ⟨pins,σ,B,J,c1,c2,_,_,x⟩=>by
 obtain⟨cl1,cl2,cl3⟩:=hcap
 show wpAny (model P w) (A.deeper (W.envX qual scope s.heap.objs.size f cd cl)) (leaving (W.envX qual scope s.heap.objs.size f cd cl) (.ref e)) (fun _ s''=>xT P w outer H s E (.ref e) s'') (fun e' s''=>xT P w outer H s E e' s'') s'
 refine zS J.ok.frames rfl x fun h' x' up=>?_
 have noA:∀b:N9,b∉(y_ (xT P w) P w K mg base N qual scope cl f cd A outer s H E).ex:=fun b z=>OA (show b∈([]:List N9) from z) (by simp)
 have dr:∀{b:N9} {u:HO},H b=some u->(∀o,u≠vj o)->sx cl b=false:=fun {b u} e n=>by
  cases q:sx cl b with
  | false=>rfl
  | true=>obtain⟨o,v,z,_⟩:=cl2 b q;rw[e] at z;cases z;exact OA rfl (n o)
 have dk:∀{b:N9} {u:HO},H b=some u->(∀o,u≠vj o)->ti cl H b=some u:=fun {b u} e n=>by
  show(if sx cl b then none else H b)=_
  rw[dr e n];exact e
 have dn:∀{b:N9},H b=none->ti cl H b=none:=fun {b} e=>by
  show(if sx cl b then none else H b)=_
  split
  ·rfl
  ·exact e
 have bk:∀{b:N9} {u:HO},H2 b=some u->uO cl H H2 b=some u:=fun {b u} e=>by
  show(if sx cl b then H b else H2 b)=_
  cases qq:sx cl b with
  | false=>exact e
  | true =>
   obtain⟨p,hp,hpb⟩:=List.any_eq_true.mp qq
   have this:∃x,cl.lookup x=some b:=⟨p.1,uv S.ndc (by rw[<- Pn hpb];exact hp)⟩
   obtain⟨x,hx⟩:=this
   have:=J.freeC x b hx
   rw[this] at e;cases e
 have bc:∀{b:N9},sx cl b=true->uO cl H H2 b=H b:=fun {b} hb=>by show(if sx cl b then H b else H2 b)=_;rw[hb];rfl
 have bn:∀{b:N9},sx cl b=false->uO cl H H2 b=H2 b:=fun {b} hb=>by show(if sx cl b then H b else H2 b)=_;rw[hb];rfl
 have hfn:∀b o,s.heap.get? b=some o->b∉vf outer->b∉vf (W.envX qual scope s.heap.objs.size f cd cl::outer):=fun b o hb hn hm=>by
  have hm':b∈s.heap.objs.size::vf outer:=hm
  rcases Oj.mp hm' with z | z
  ·rw[z] at hb;exact OX _ (Om hb)
  ·exact hn z
 have cov:∀b o,s.heap.get? b=some o->b∉vf outer->∃o',B.get? b=some o':=fun b o hb hn=>c1 b o hb (hfn b o hb hn) (by intro z;cases z)
 have cellKept:∀{b:N9},sx cl b=true->∃o,H b=some (vj o)/\s'.heap.get? b=some o/\∃o',B.get? b=some o':=fun {b} hb=>by
  obtain⟨o,u',z,_⟩:=cl2 b hb
  have hfr:b∉vf outer:=fun m=>by rw[frf b m] at z;cases z
  exact⟨o,z,J.base.keep b o (hokS b _ z).1 (by show(if sx cl b then none else H b)=none;rw[hb];rfl) hfr (noA b),cov b o (hokS b _ z).1 hfr⟩
 have un0:Un (vf outer) [] H (uO cl H H2) s.heap s'.heap:=by
  refine⟨fun b o e n hf' hx=>J.base.keep b o e (dn n) hf' (noA b),fun b o e n hf' hx=>J.base.slot b o e (dn n) hf' (noA b),fun b o e n hx=>?_,fun b o e hx=>J.base.there b o e (noA b),fun b xs e=>bk (J.base.tups b xs (dk e fun o z=>by cases z)),fun b o u ny e=>?_,fun b a d e=>bk (J.base.tbls b a d (dk e fun o z=>by cases z))⟩
  ·cases hb:sx cl b with
   | true=>rw[bc hb];exact n
   | false=>rw[bn hb];exact J.base.free b o e (dn n) (noA b)
  ·cases hb:sx cl b with
   | true=>rw[bc hb];exact e
   | false =>
    rw[bn hb]
    refine J.base.frzs b o u ny ?_
    show(if sx cl b then none else H b)=_
    rw[hb];exact e
 have hok0:wF P w (uO cl H H2) s'.heap:=fun b u e=>by
  cases hb:sx cl b with
  | true =>
   obtain⟨o,z,g,_⟩:=cellKept hb
   rw[bc hb,z] at e
   cases e
   exact⟨g,trivial,⟨_,g⟩,fun _ _ _ _=>trivial⟩
  | false =>
   rw[bn hb] at e
   exact(J.hok b u e).stay (fun c v _ g=>g) (fun c g=>bk g) (fun c xs g=>bk g) fun c a d g=>bk g
 have c2':∀b u,uO cl H H2 b=some u->∃o',B.get? b=some o':=fun b u e=>by
  cases hb:sx cl b with
  | true=>obtain⟨o,_,_,q⟩:=cellKept hb;exact q
  | false=>rw[bn hb] at e;exact c2 b u e
 have sm:i9 H (uO cl H H2):=fun b u e=>by
  cases hb:sx cl b with
  | true=>rw[bc hb];exact e
  | false=>rw[bn hb];exact hS b u (by show(if sx cl b then none else H b)=_;rw[hb];exact e)
 exact⟨e,C,B,_,rfl,J.os,J.bare,x',yD un0 x.st x'.st (fun b _ o=>up b o) (fun b hb=>by
   obtain⟨_,o,ho,nd⟩:=x.fr.mem (Oy _ hb:b∈s.heap.objs.size::vf outer)
   exact⟨o,ho,nd⟩) (fun b o hb hf _=>cov b o hb hf),xt hok0 x.st x'.st c2',cov,c2',sm,hE⟩
end
section
variable{X:Cx}{ca:Nat->N9}{pos p:Pos}{k:Nat}{f c':N9}{name qual:Str}{params:Arguments}{body:OG}{scope:Scope}{cl:List (Str×N9)}{pm ctv:N8}{ps:List Str}
theorem nU{i:Nat}{x:Str}{sp:Sp}(hF:k6 X.prog X.w X.K X.mg X.base (xT X.prog X.w) k f (W.kla_fn name qual params body scope cl pm (.ref c') ctv) ps sp)(bd:Binds X.K (W.kla_fn name qual params body scope cl pm (.ref c') ctv) ps [])(hr:rO k X.A)
  (hN:X.N[i]?=some x:=by rfl) (hv:BS X.env.scope x:=by first | exact Or.inl rfl | exact Or.inr (Or.inl rfl) | exact Or.inr (Or.inr rfl)) (hd:(x==("__debug__" : Str))=false:=by decide) (hcd:(x==("__classdict__" : Str))=false:=by decide) :
  PE X (.Call (.Name x p) [] [] pos) fun σ H Q=>σ[i]?=some (some (.ref f))/\H f=some (vj (W.kla_obj name qual params body scope cl pm c' ctv))/\sp [] H Q (EX X):=by
 intro pins s σ H Q I ⟨x1,hf,h⟩
 refine Pc (sh (jG (pos:=p) hN hv hd hcd pins s σ H (fun v H1=>v=.ref f/\H1=H) I ⟨.ref f,x1,rfl,rfl⟩) fun u s1 ⟨v,H1,I1,rv,ev,eH⟩=>?_)
 subst ev eH
 cases (show u=_ from rv)
 refine W.callWith_of (P:=fun h=>h.get? f=some (W.kla_obj name qual params body scope cl pm c' ctv)) rfl GR (PyProof.Rows.evalArgs_empty ⟨(I1.hok f _ hf).1,?_⟩)
 exact yN (us:=[]) hF hr bd .nil Fj I1 .nil (by rw[OQ];exact h)
end
section
variable{X:Cx}{ca:Nat->N9}{Wz:N9}{newId nW:String}{x n:Str}{np apos hpos pos:Pos}{b₀:OE}{suite:List OE}{gs:Nat->Nat->R->N7 Out}
end
end HW
namespace HW
open PySem
structure xF where
 q:Str
 params:Arguments
 body:OG
 scope:Scope
 N:List Str
 ps:List Str
 deriving Inhabited
def za:List Nat->R->N7 LD
 | [],_=>some []
 | j::js,ρ=>(g4 j ρ).bind fun d=>(za js ρ).map (d::·)
abbrev MX:=R->N7 (Except Nat (D×D))
def tP(C:Nat)(m:Str)(j:Nat)(G:LD->N7 (Except Nat (D×D)))(F:R->N7 LD):MX:=fun ρ=>(g4 j ρ).bind fun ob=>(F ρ).bind fun ds=>match ob with
 | .obj k _ ks _=>if k=C+2/\ks.contains m=false then G (ob::ds) else none
 | _=>none
def sG:Str:=oS "told"
def vG(j:Nat)(js:List Nat)(g:MX)(fnd:Nat->OD)(S:List Nat)(ρ:R):N7 (D×R):=(za js ρ).bind fun ds=>(ds[j]?).bind fun ob=>(g (ds.map some)).bind fun r=>match r with
 | .ok (d,o')=>if vk ob=true/\v6 (js.getD j 0) (adr ob) ρ=true/\ym S (adr ob)=true/\js.getD j 0<ρ.length then some (.tup [.str sG,d],ρ.set (js.getD j 0) (some o')) else none
 | .error c=>if vk ob=true then (fnd c).map fun d=>(d,ρ) else none
def DA(c:R->N7 Bool)(f:R->OD)(k:Nat)(u:MU):List Nat->R->N7 (Except Nat MO):=fun S ρ=>(c ρ).bind fun b=>if b then (f ρ).map fun _=>.error k else (u S ρ).map .ok
def ET(n N j:Nat)(g:List Nat->R->N7 (Except Nat MO)):LD->N7 (Except Nat (D×D)):=fun ds=>if ds.length=n then (ds[j]?).bind fun ob=>if vk ob=true then (g (adr ob) (yo N ds)).bind fun o=>match o with
 | .error c=>some (.error c)
 | .ok (.nx ρ)=>(GV j ob .non ρ).map .ok
 | .ok (.rt d ρ)=>(GV j ob d ρ).map .ok
 else none else none
noncomputable def sB(i:Nat):OE->OE
 | .For _ _ b _ _=>b.getD i (.Pass ⟨0,0,0,0⟩)
 | .If _ b _ _=>b.getD i (.Pass ⟨0,0,0,0⟩)
 | .FunctionDef _ _ b ..=>b.getD i (.Pass ⟨0,0,0,0⟩)
 | s=>s
def sV:OE->OG
 | .Assign _ v ..=>v
 | .Return (some v) _=>v
 | .Expr v _=>v
 | _=>.Name "" ⟨0,0,0,0⟩
def eA(i:Nat):OG->OG
 | .Call _ a _ _=>a.getD i (.Name "" ⟨0,0,0,0⟩)
 | e=>e
def DJ(q:Str)(N ps:List Str):OG->xF
 | .Lambda a b c _=>⟨q,a,b,c,N,ps⟩
 | _=>default
end HW
namespace HW
open PySem PySem.Spec PyProof.Rows L2
section
variable{X:Cx}
end
theorem Fb{K:N_}{C N:N9}{bm bs sub:List N8}{newId:String}{nm q:Str}{hdct ab:Bool}{sn:List Str}{col:N7 Bool}{dd:N7 N9}{k0 k1 k2 k3 k5:N7 N8}
  (l:K.lookup C=some (excClassObj nm q C N bs bm hdct sn sub ab col dd k0 k1 k2 k3 k5 newId)) (ex:W.excIn K C VE newId=true) (h0:W.nsIn K N "__init__" = some none) (h1:W.nsIn K N "__getattribute__" = some none) (h2:W.nsIn K N "__getattr__" = some none) (h3:W.nsIn K N "__class__" = some none):FX K C bm newId:=by
 have hok:W.nsOkIn K N=true:=by
  unfold W.excIn at ex
  rw[l] at ex
  simp only[Oe] at ex
  exact ex.1.2
 have hN:∃c d es n sl,K.lookup N=some ⟨c,d,.dict es n,sl⟩:=by
  unfold W.nsOkIn at hok
  split at hok
  ·rename_i c d es n sl ho
   exact⟨_,_,_,_,_,ho⟩
  ·cases hok
 obtain⟨c,d,es,ep,sl,hl⟩:=hN
 have nsH:∀h,K.In h->h.Ns N (fun x=>nsFind es x):=fun h x=>by
  obtain⟨o,es',ep',ho,hd,hs,hf⟩:=Heap.Ns.of_isNs (W.isNs_of_in x hok)
  have:=x _ _ hl
  rw[ho] at this
  cases this
  cases hd
  exact⟨_,es,ep,ho,rfl,hs,fun _=>rfl⟩
 refine⟨N,nm,q,bs,hdct,sn,sub,ab,col,dd,k0,k1,k2,k3,k5,fun x=>nsFind es x,fun n hn=>?_,fun h x=>⟨x _ _ l,nsH h x⟩⟩
 have none_of:∀n,W.nsIn K N n=some none->nsFind es n=none:=fun n e=>by
  unfold W.nsIn at e
  rw[hl] at e
  dsimp only at e
  split at e
  ·cases e
  ·rename_i he
   unfold nsFind findBy
   rw[<- Array.find?_toList,he]
   rfl
 simp only[Nq,Oj,List.not_mem_nil,or_false] at hn
 rcases hn with rfl | rfl | rfl | rfl
 ·exact none_of _ h0
 ·exact none_of _ h1
 ·exact none_of _ h2
 ·exact none_of _ h3
abbrev NV:String:="ValueError.__new__"
section
variable{X:Cx}{ca:Nat->N9}{Wz:N9}{e:OG}{es:List OG}{f:R->OD}{F:R->N7 LD}{p pos np cpos:Pos}
end
section
variable{X:Cx}{ca:Nat->N9}{Wz:N9}{n y:Str}{np apos hpos pos rp yp:Pos}{tg e0:OG}{b₀:OE}{suite:List OE}{fx:XD}{stf:D->R->N7 R}{gs:Nat->Nat->R->N7 Out}
end
section
variable{X:Cx}{k1 k2 v1 v2:Str}{ke1 ke2 e1 e2 i:OG}{g:R->OD}{pd pos:Pos}
end
def D_(a0 a1:N9):Nat->N9
 | 0=>a0
 | _=>a1
section
variable{K:N_}{H:Hp}
theorem Bw{K:N_}{H:Hp}{ρ:R}{σ:L2.St}(er:se K H ρ σ):∀{js:List Nat} {cs:LD},za js ρ=some cs->∃vs,i8 K H cs vs/\vs.length=js.length/\∀(i j:Nat) (v:V),js[i]?=some j->vs[i]?=some v->σ[j]?=some (some v)
 | [],_,h=>by cases h;exact⟨[],rfl,rfl,fun i j v h=>by cases h⟩
 | j::js,cs,h=>by
  obtain⟨d,e1,h⟩:=i5 h
  obtain⟨cs',e2,rfl⟩:=rW h
  obtain⟨v,hσ,rv⟩:=er.at e1
  obtain⟨vs,r,hl,hg⟩:=Bw er e2
  refine⟨v::vs,⟨v,vs,rfl,rv,r⟩,by simp[hl],fun i j' v' h1 h2=>?_⟩
  cases i with
  | zero=>cases h1;cases h2;exact hσ
  | succ i=>exact hg i j' v' h1 h2
end
structure CQ (X:Cx) (t:xF) (cl:List (Str×N9)) (ct:tG) (js:List Nat):Prop where
 TB:tR X.mg [ct] X.base
 hT:X.H₀ ct.P=some (.tbl ct.q false)
 tq:t.q=ct.q
 code:X.env.code=.ref ct.c
 qual:X.env.qual ++ "<lambda>" = ct.q
 hcl:closureFor t.scope X.env=pure cl
 hdf:defaultsOf t.params X.env=([],[])
 own:FP X cl
 sc:tE t.N t.ps t.scope cl
 hjs:js.map (fun j=>X.N[j]?)=(t.N.drop t.ps.length).map some
 hcn:∀y c,cl.lookup y=some c->y∈t.N.drop t.ps.length
theorem Ff{X:Cx}{t:xF}{ct:tG}{x:Str}{c:N9}{j:Nat}(TB:tR X.mg [ct] X.base)(hT:X.H₀ ct.P=some (.tbl ct.q false))(tq:t.q=ct.q)(code:X.env.code=.ref ct.c)(qual:X.env.qual ++ "<lambda>" = ct.q)
  (fn:∀x,X.fn x=true) (hcl:closureFor t.scope X.env=pure [(x,c)]) (hdf:defaultsOf t.params X.env=([],[])) (hcell:X.env.cells.lookup x=some c) (hk:X.env.scope.names.lookup x=some .cell) (hN:X.N[j]?=some x)
  (kd:t.scope.kind=.function) (co:t.scope.isCoroutine=false) (gen:t.scope.isGenerator=false) (nd:t.N.Nodup) (hn:t.N=t.ps++[x]) (par:∀y∈t.ps,t.scope.names.lookup y=some .local) (noc:∀y∈t.scope.names,y.2≠.cell)
  (fre:t.scope.names.lookup x=some .free) (only:∀y∈t.scope.names,y.2=.free->y.1=x):CQ X t [(x,c)] ct [j]:=by
 have hdr:t.N.drop t.ps.length=[x]:=by rw[hn,List.drop_left]
 have lk:∀y c',List.lookup y [(x,c)]=some c'->y=x/\c'=c:=fun y c' h=>by
  rw[List.lookup_cons] at h
  cases q:y==x with
  | true=>rw[q] at h;cases h;exact⟨Pn q,rfl⟩
  | false=>rw[q] at h;cases h
 have lkx:List.lookup x [(x,c)]=some c:=by rw[List.lookup_cons];simp
 refine⟨TB,hT,tq,code,qual,hcl,hdf,⟨fn,by simp,fun y c' h=>?_⟩,⟨kd,co,gen,nd,by rw[hn,List.take_left],par,noc,fun y hy=>?_,fun y hy=>?_,by simp,fun y z c' h1 h2=>by rw[(lk y c' h1).1,(lk z c' h2).1]⟩,by rw[hdr];simp[hN],fun y c' h=>by rw[hdr,(lk y c' h).1];exact Od.mpr rfl⟩
 ·obtain⟨rfl,rfl⟩:=lk y c' h
  exact⟨hcell,hk⟩
 ·rw[hdr] at hy
  rw[Od.mp hy]
  exact fre
 ·have:=only _ (O0 hy) rfl
  rw[show y=x from this]
  exact⟨c,lkx⟩
def AT(K:N_)(H:Hp)(ob:D)(Q:VK)(Er:Nat->Hp->Prop):Except Nat (D×D)->Prop
 | .ok (d,o')=>∀v H',sy (adr ob) H H'->rQ (adr ob) H'->Rep K H' d v->Rep K H' o' (.ref (v7 ob))->Q v H'
 | .error c=>∀H',i9 H H'->Er c H'
theorem AT.imp{K:N_}{H:Hp}{ob:D}{Q Q':VK}{Er Er':Nat->Hp->Prop}{r:Except Nat (D×D)}(h:AT K H ob Q Er r)(h1:∀v H',Q v H'->Q' v H')(h2:∀c H',Er c H'->Er' c H'):AT K H ob Q' Er' r:=by
 match r,h with
 | .ok (d,o'),h=>exact fun v H' a b c e=>h1 _ _ (h v H' a b c e)
 | .error c,h=>exact fun H' s=>h2 _ _ (h H' s)
section
variable(ca:Nat->N9)
def MP(X:Cx)(j:Nat)(g:MX):TE:=fun σ H Q=>∃ ρ ob r,se X.K H ρ σ/\g4 j ρ=some ob/\vk ob=true/\g ρ=some r/\AT X.K H ob Q (fun c H'=>XW X (ca c) H') r
def Hk(K:N_)(n:Nat)(G:LD->N7 (Except Nat (D×D))):Sp:=fun vs H Q E=>∃ob ds r,(ob::ds).length=n/\i8 K H (ob::ds) vs/\vk ob=true/\G (ob::ds)=some r/\AT K H ob Q (fun c H'=>E (.ref (ca c)) none H') r
structure vJ (P:Oh) (w:Ot) (K:N_) (mg:Str->N7 N8) (base:OC) (k C:Nat) (m:Str) (ps:List Str) (G:LD->N7 (Except Nat (D×D))):Prop where
 ex:∃f fd,k6 P w K mg base (xT P w) k f fd ps (Hk ca K ps.length G)/\BQ K C m f/\Binds K fd ps []
end
theorem vJ.m{ca:Nat->N9}{P:Oh}{w:Ot}{K:N_}{mg:Str->N7 N8}{base:OC}{k k' C:Nat}{x:Str}{ps:List Str}{G:LD->N7 (Except Nat (D×D))}(h:vJ ca P w K mg base k C x ps G)(hk:k<=k':=by decide):vJ ca P w K mg base k' C x ps G:=by
 obtain⟨f,fd,a,b⟩:=h.ex
 exact⟨f,fd,a.mono hk,b⟩
section
variable{X:Cx}{ca:Nat->N9}{pos apos:Pos}{k C:Nat}{mn x:Str}{ps:List Str}{G:LD->N7 (Except Nat (D×D))}
theorem oG (j:Nat) (c:vI X.K C) (M:vJ ca X.prog X.w X.K X.mg X.base k C mn ps G) (hr:rO k X.A) (hps:ps.length=1) {px:Pos} (hN:X.N[j]?=some x:=by rfl) (hv:BS X.env.scope x:=by first | exact Or.inl rfl | exact Or.inr (Or.inl rfl) | exact Or.inr (Or.inr rfl))
    (hd:(x==("__debug__" : Str))=false:=by decide) (hcd:(x==("__classdict__" : Str))=false:=by decide) {pl:Sem Bool}
    (ht:eval (.Call (.Attribute (.Name x px) mn apos) [] [] pos) X.env=(do
      let ov <- eval (.Name x px) X.env
      standAt apos.atName
      let (f,first) <- holding [ov] (getMethod ov mn pl)
      callWith pos f first (backTo pos (starEach [] X.env)) (backToKw pos (keywordEach [] X.env))):=by rfl):PE X (.Call (.Attribute (.Name x px) mn apos) [] [] pos) (MP ca X j (tP C mn j G g5)):=by
  obtain⟨f,fd,F,hm,bd⟩:=M.ex
  refine(k_ (pv j (pos:=px) hN hv hd hcd) c hm F hr bd .nil Fj ht).imp fun σ H Q ⟨ρ,ob,r,er,hat,ho,e,q⟩=>?_
  obtain⟨ob',e1,z1⟩:=i5 e
  rw[hat] at e1
  cases e1
  obtain⟨ds,e2,z2⟩:=i5 z1
  cases e2
  clear e z1
  match ob,z2,hat,ho,q with
  | .obj kk a ks es',z2,hat,ho,q =>
    have e:(if kk=C+2/\ks.contains mn=false then G [.obj kk a ks es'] else none)=some r:=z2
    split at e
    case isFalse=>cases e
    case isTrue hc =>
    obtain⟨rfl,hk⟩:=hc
    obtain⟨v,hσ,rv⟩:=er.at hat
    have rv':=rv
    obtain⟨xs,ev,⟨hl,dx,hH⟩,t⟩:=rv
    subst ev
    refine⟨.ref a,hσ,a,dx,_,rfl,hH,vQ hk,?_⟩
    exact⟨.obj (C+2) a ks es',[],r,hps.symm,⟨_,[],rfl,rv',rfl⟩,rfl,e,q.imp (fun _ _ z=>z) fun c H' z=>⟨_,rfl,z⟩⟩
end
def x6(ca:Nat->N9)(K:N_)(t:xF)(j:Nat)(g:MX)(f c':N9)(cl:List (Str×N9))(pm ctv:N8):Sp:=fun vs H Q E=>vs=[]/\H f=some (vj (W.kla_obj "<lambda>" t.q t.params t.body t.scope cl pm c' ctv))/\H c'=some (.tbl t.q true) /\
 ∃caps ds ob r,wR H t.N t.ps cl caps/\i8 K H ds caps/\ds[j]?=some ob/\vk ob=true/\g (ds.map some)=some r/\AT K H ob Q (fun c H'=>E (.ref (ca c)) none H') r
theorem DE{ca:Nat->N9}{P:Oh}{w:Ot}{K:N_}{mg:Str->N7 N8}{base:OC}{k:Nat}{t:xF}{j:Nat}{g:MX}(hps:t.ps=[])
  (hb:∀(cl:List (Str×N9)) (f c':N9) (A:OJ) (outer:List Env) (s:Oa) (H:Hp) (E:XK),tE t.N t.ps t.scope cl->rO k (A.deeper (W.envX t.q t.scope s.heap.objs.size f (.ref c') cl))->PE (y_ (xT P w) P w K mg base t.N t.q t.scope cl f (.ref c') A outer s H E) t.body (MP ca (y_ (xT P w) P w K mg base t.N t.q t.scope cl f (.ref c') A outer s H E) j g))
  (f c':N9) (cl:List (Str×N9)) (pm ctv:N8) (S:tE t.N t.ps t.scope cl):k6 P w K mg base (xT P w) (k+1) f (W.kla_fn "<lambda>" t.q t.params t.body t.scope cl pm (.ref c') ctv) t.ps (x6 ca K t j g f c' cl pm ctv):=by
 refine JE S (fun vs H Q E ⟨h,_⟩=>by rw[h,hps];rfl) (fun vs H Q E ⟨_,h1,h2,_⟩=>⟨h1,h2⟩) (fun A outer s H vs Q E hr e0 h=>?_)
 obtain⟨rfl,h1,h2,caps,ds,ob,r,h3,r2,hj,ho,e,q⟩:=h
 have hC:∀b,sx cl b=true->∃o,H b=some (vj o):=fun b hb=>let ⟨o,_,z,_⟩:=h3.2.1 b hb;⟨o,z⟩
 have dc:=yL hC
 have rd:i8 K (ti cl H) ds caps:=i8.clo dc r2
 refine⟨caps,_,h3,hb cl f c' A outer s H E S hr,ds.map some,ob,r,?_,?_,ho,e,?_⟩
 ·exact pe rd
 ·show(ds.map some).getD j none=some ob
  rw[OU,O6,hj];rfl
 ·match r,q with
  | .ok (d,o'),q =>
   refine fun v H2 kq m2 rv ro bk=>q v _ (fun b u hn hu=>?_) (fun b hb=>?_) (rv.mono fun b u hu=>bk b u hu) (ro.mono fun b u hu=>bk b u hu)
   ·show(if sx cl b then H b else H2 b)=some u
    cases qc:sx cl b with
    | true=>exact hu
    | false=>exact kq b u hn (by rw[ua qc];exact hu)
   ·have:=m2 b hb
    cases hz:H2 b with
    | none=>rw[hz] at this;exact this.elim
    | some u=>rw[bk b u hz];rw[hz] at this;exact this
  | .error c,q =>
   refine fun H2 s2=>Iy S h3 e0.hok e0.frf (q _ fun b u hu=>?_) s2
   show(if sx cl b then H b else H2 b)=some u
   cases qc:sx cl b with
   | true=>exact hu
   | false=>exact s2 b u (by rw[ua qc];exact hu)
section
variable(ca:Nat->N9)
def NP(X:Cx)(S:List Nat)(g:List Nat->R->N7 (Except Nat MO)):TS:=fun E σ H=>∃ ρ τ o,sd X.K H ρ τ σ/\rQ S H/\g S ρ=some o/\match o with
 | .ok mo=>∀H',sy S H H'->rQ S H'->K1 X.K E τ mo H'
 | .error c=>∀H',i9 H H'->XT X (ca c) H'
def Ng(X:Cx)(sts:List OE)(g:List Nat->R->N7 (Except Nat MO)):Prop:=∀S,PSs X sts (NP ca X S g)
end
section
variable{X:Cx}{ca:Nat->N9}{pos:Pos}
theorem Fl{c:OG}{st:OE}{sts:List OE}{s:R->N7 Bool}{f:R->OD}{u:MU}{n:Nat}(hc:ST X c s)(hr:Mx ca X st (Ck n f))(hu:Bx X sts u):Ng ca X (.If c [st] [] pos::sts) (DA s f n u):=fun S =>
 (dM (jw hc (dh hr) yE) (hu S)).imp fun E σ H ⟨ρ,τ,o,er,m,e,q⟩=>by
  obtain⟨b,e1,e⟩:=i5 e
  refine⟨ρ,b,er.1,e1,fun H1 s1=>?_⟩
  cases b with
  | true =>
   rw[Of rfl] at e ⊢
   obtain⟨d,e2,e3⟩:=rW e
   subst e3
   refine⟨ρ,τ,.error n,er.mono s1,?_,fun H2 s2=>q H2 (s1.trans s2)⟩
   show(f ρ).map _=_
   rw[e2];rfl
  | false =>
   rw[Ov Oi] at e ⊢
   obtain⟨mo,e2,e3⟩:=rW e
   subst e3
   exact⟨ρ,τ,mo,er.mono s1,m.same s1,e2,fun H2 k2 m2=>q H2 ((sy.of s1).trans k2) m2⟩
end
theorem oF{ca:Nat->N9}{P:Oh}{w:Ot}{K:N_}{mg:Str->N7 N8}{base:OC}{x qual:Str}{st:OE}{f:N9}{fd:OV}{N ps:List Str}{k:Nat}{g:List Nat->R->N7 (Except Nat MO)}
  (Fn:sr K x qual st f fd) (Sc:i4 N ps (e9 st))
  (hb:∀(cdv:N8) (A:OJ) (outer:List Env) (s:Oa) (H:Hp) (E:XK),rO k (A.deeper (envOfC qual (e9 st) s.heap.objs.size f cdv))->Ng ca (uV (xT P w) P w K mg base N qual (e9 st) f cdv A outer s H E) (rS st) g) :
  k6 P w K mg base (xT P w) (k+1) f fd ps (Hk ca K ps.length (ET ps.length N.length 0 g)):=by
 obtain⟨oc,od,kV,doc,pm,an,cdv,ct,osl,rfl,lk,hcd⟩:=Fn.ex
 refine pk lk hcd Sc (fun vs H Q E h=>?_) (fun A outer s H vs Q E hr h=>?_)
 ·obtain⟨ob,ds,r,hl,rr,_⟩:=h
  rw[<- rr.length];exact hl
 ·obtain⟨ob,ds,r,hl,rr,ho,e,q⟩:=h
  unfold ET at e
  rw[Of hl] at e
  have e':(if vk ob=true then _ else none)=some r:=e
  rw[Of ho] at e'
  obtain⟨o,e1,e2⟩:=i5 e'
  obtain⟨v,hv,rv⟩:=rr.get (i:=0) rfl
  have ms:=uN rv
  refine⟨_,hb cdv A outer s H E hr (adr ob),yo N.length (ob::ds),_,o,(wn rr).t,ms,e1,?_⟩
  match o,e2 with
  | .error c,e2 =>
   cases e2
   exact fun H1 s1=>I9 (q H1 s1) s1
  | .ok (.nx ρ),e2 =>
   obtain⟨⟨d,o'⟩,e3,e4⟩:=rW e2
   subst e4
   intro H1 k1 m1 σ' er'
   obtain⟨ob',e5,e6⟩:=i5 e3
   split at e6
   ·rename_i hc
    obtain⟨rfl,rfl⟩:D.non=d/\ob'=o':=by simpa using e6
    have rr2:=(HK.of er'.1) 0 ob' (wm e5) hc.1
    rw[wy hc.1 ho hc.2] at rr2
    exact q .non H1 k1 m1 rfl rr2
   ·cases e6
  | .ok (.rt d' ρ),e2 =>
   obtain⟨⟨d,o'⟩,e3,e4⟩:=rW e2
   subst e4
   intro H1 k1 m1 v rv ob1
   obtain⟨ob',e5,e6⟩:=i5 e3
   split at e6
   ·rename_i hc
    obtain⟨rfl,rfl⟩:d'=d/\ob'=o':=by simpa using e6
    have rr2:=ob1 0 ob' (wm e5) hc.1
    rw[wy hc.1 ho hc.2] at rr2
    exact q v H1 k1 m1 rv rr2
   ·cases e6
def yR(P:Oh)(w:Ot)(K:N_)(mg:Str->N7 N8)(base:OC)(ca:Nat->N9)(k:Nat)(fnd:Nat->OD):Sp:=fun vs H Q _=>∃(t:xF) (j:Nat) (g:MX) (f c':N9) (cl:List (Str×N9)) (pm ctv:N8),vs=[.ref f]/\t.ps=[] /\
 k6 P w K mg base (xT P w) k f (W.kla_fn "<lambda>" t.q t.params t.body t.scope cl pm (.ref c') ctv) t.ps (x6 ca K t j g f c' cl pm ctv)/\Binds K (W.kla_fn "<lambda>" t.q t.params t.body t.scope cl pm (.ref c') ctv) t.ps [] /\
 x6 ca K t j g f c' cl pm ctv [] H (fun v H1=>∀p,H1 p=none->Q (.ref p) (upd H1 p (.tup [.str sG,v]))) (fun Cv _ H1=>∃c d,Cv=.ref (ca c)/\fnd c=some d/\∀v H2,i9 H1 H2->Rep K H2 d v->Q v H2)
theorem x6.imp{ca:Nat->N9}{K:N_}{t:xF}{j:Nat}{g:MX}{f c':N9}{cl:List (Str×N9)}{pm ctv:N8}{vs:List V}{H:Hp}{Q Q':VK}{E E':XK}(h:x6 ca K t j g f c' cl pm ctv vs H Q E)(h1:∀v H',Q v H'->Q' v H')(h2:∀c H',E (.ref (ca c)) none H'->E' (.ref (ca c)) none H'):x6 ca K t j g f c' cl pm ctv vs H Q' E':=by
 obtain⟨a,b,c,caps,ds,ob,r,d,e,f1,g1,h3,q⟩:=h
 exact⟨a,b,c,caps,ds,ob,r,d,e,f1,g1,h3,q.imp h1 h2⟩
section
variable{X:Cx}{ca:Nat->N9}{Wz:N9}{y n dn:Str}{np dp cp tp yp yp2 rp lp apos hpos pos:Pos}{b₀:OE}{suite:List OE}{gs:Nat->Nat->R->N7 Out}{k:Nat}{x1:_}{js1:_}
end
theorem oN {ca:Nat->N9} {P:Oh} {w:Ot} {K:N_} {mg:Str->N7 N8} {base:OC} {x qual:Str} {st:OE} {f:N9} {fd:OV} {N ps:List Str} {k:Nat} {fnd:Nat->OD}
    (Fn:sr K x qual st f fd) (Sc:i4 N ps (e9 st)) (hps:ps.length=1) (hn:1<=N.length)
    (hb:∀(cdv:N8) (A:OJ) (outer:List Env) (s:Oa) (H:Hp) (E:XK),rO k (A.deeper (envOfC qual (e9 st) s.heap.objs.size f cdv))->PSs (uV rV P w K mg base N qual (e9 st) f cdv A outer s H E).nox (rS st)
      (fun E σ H=>σ.length=N.length/\∃f,σ[0]?=some (some (.ref f))/\yR P w K mg base ca k fnd [.ref f] H E.rt E0)) :
    k6 P w K mg base rV (k+1) f fd ps (yR P w K mg base ca k fnd):=by
  refine Fn.ok Sc (fun vs H Q E h=>?_) (fun cdv A outer s H vs Q E hr h=>?_)
  · obtain⟨_,_,_,_,_,_,_,_,rfl,_⟩:=h
    rw[hps];rfl
  · obtain⟨t,j,g,fc,c',cl,pm,ctv,rfl,q⟩:=h
    refine⟨_,hb cdv A outer s H E hr,?_,fc,rfl,t,j,g,fc,c',cl,pm,ctv,rfl,q⟩
    unfold L2.start
    simp
    omega
structure wx (P:Oh) (w:Ot) (K:N_) (mg:Str->N7 N8) (base:OC) (ca:Nat->N9) (k k0:Nat) (x:Str) (ps:List Str) (fnd:Nat->OD):Prop where
 ex:∃f fd,k6 P w K mg base rV k f fd ps (yR P w K mg base ca k0 fnd)/\mg x=some (.ref f)/\W.keepIn K (.ref f)=true/\Binds K fd ps []
theorem wx.m{P:Oh}{w:Ot}{K:N_}{mg:Str->N7 N8}{base:OC}{ca:Nat->N9}{k k' k0:Nat}{x:Str}{ps:List Str}{fnd:Nat->OD}(h:wx P w K mg base ca k k0 x ps fnd)(hk:k<=k':=by decide):wx P w K mg base ca k' k0 x ps fnd:=by
 obtain⟨f,fd,a,b⟩:=h.ex
 exact⟨f,fd,a.mono hk,b⟩
def ND(X:Cx)(j:Nat)(js:List Nat)(g:MX)(fnd:Nat->OD)(S:List Nat):TE:=fun σ H Q=>∃ ρ τ d ρ',sd X.K H ρ τ σ/\rQ S H/\vG j js g fnd S ρ=some (d,ρ')/\∀v H',sy S H H'->rQ S H'->Rep X.K H' d v->sd X.K H' ρ' τ σ->Q v H'
def Ic(X:Cx)(e:OG)(j:Nat)(js:List Nat)(g:MX)(fnd:Nat->OD):Prop:=∀S,PE X e (ND X j js g fnd S)
theorem Du:∀{js:List Nat} {ρ:R} {ds:LD} {j:Nat} {ob:D},za js ρ=some ds->ds[j]?=some ob->g4 (js.getD j 0) ρ=some ob
 | [],_,_,j,ob,h,hj=>by cases h;cases hj
 | i::js,ρ,ds,j,ob,h,hj=>by
  obtain⟨d,e1,h⟩:=i5 h
  obtain⟨ds',e2,rfl⟩:=rW h
  cases j with
  | zero=>cases hj;exact e1
  | succ j=>exact Du (js:=js) e2 hj
section
variable{X:Cx}{ca:Nat->N9}{pos p lpos:Pos}{k k0:Nat}{told:Str}{ps:List Str}{t:xF}{ct:tG}{cl:List (Str×N9)}{js:List Nat}{j:Nat}{g:MX}{fnd:Nat->OD}
theorem ia(C:wx X.prog X.w X.K X.mg X.base ca k k0 told ps fnd)(hr:rO k X.A)(o:CQ X t cl ct js)(hps:t.ps=[])
  (LM:∀(f c':N9) (cl:List (Str×N9)) (pm ctv:N8),tE t.N t.ps t.scope cl->k6 X.prog X.w X.K X.mg X.base (xT X.prog X.w) k0 f (W.kla_fn "<lambda>" t.q t.params t.body t.scope cl pm (.ref c') ctv) t.ps (x6 ca X.K t j g f c' cl pm ctv))
  (bd:∀(c':N9) (cl:List (Str×N9)) (pm ctv:N8),Binds X.K (W.kla_fn "<lambda>" t.q t.params t.body t.scope cl pm (.ref c') ctv) t.ps []) (hg:Gl X told:=by rfl) (hdb:(told==("__debug__" : Str))=false:=by decide) :
  Ic X (.Call (.Name told p) [.Lambda t.params t.body t.scope lpos] [] pos) j js g fnd:=by
 obtain⟨fa,fd,fok,hm,kp,bdT⟩:=C.ex
 intro S pins s σ H Q I ⟨ρ,τ,d,ρ',er,mS,e0,q⟩
 refine oR fok hr hg hm kp bdT o.own (gb (qO (t:=ct) (ts:=[ct]) o.TB (.head _) o.code o.qual o.hcl o.hdf) AD) hdb rfl rfl pins s σ H Q I ⟨I.base.tbls _ _ _ o.hT,fun f c' ctv pm H1 s1 hn h1 h2 H2 tr=>?_⟩
 obtain⟨ds,eC,e0⟩:=i5 e0
 obtain⟨ob,hj,e0⟩:=i5 e0
 obtain⟨r,eg,e0⟩:=i5 e0
 have s12:i9 H1 H2:=fun b u hb=>by
  cases qc:sx cl b with
  | false=>rw[tr.out b qc];exact hb
  | true=>rw[(tr.cel b qc).1] at hb;cases hb
 have er1:=er.mono s1
 obtain⟨cvs,rc,hl,hg'⟩:=Bw er1.1 eC
 have hlen:js.length=t.N.length - t.ps.length:=by
  have:=congrArg List.length o.hjs
  rw[OK,OK,Pu] at this
  exact this
 have at_i:∀(i:Nat) (y:Str),(t.N.drop t.ps.length)[i]?=some y->∃j,js[i]?=some j/\X.N[j]?=some y:=fun i y hy=>by
  have h:=congrArg (fun l=>l[i]?) o.hjs
  simp only[O6] at h
  rw[hy] at h
  cases hj:js[i]? with
  | none=>rw[hj] at h;cases h
  | some j=>rw[hj] at h;exact⟨j,rfl,Ow h⟩
 have caps:wR H2 t.N t.ps cl cvs:=by
  refine⟨by rw[hl,hlen],fun b hb=>?_,fun i y v hy hv=>?_⟩
  ·obtain⟨pr,hp,ep⟩:=List.any_eq_true.mp hb
   have hlk:cl.lookup pr.1=some b:=uv o.own.ndc (by rw[<- Pn ep];exact hp)
   obtain⟨i,hi⟩:=List.getElem?_of_mem (o.hcn _ _ hlk)
   obtain⟨j,hj,hN⟩:=at_i i _ hi
   have hil:i<cvs.length:=by rw[hl];exact(OI.mp hj).1
   obtain⟨ob,u,z1,z2,_⟩:=tr.val j _ b cvs[i] hN (hg' i j _ hj (List.getElem?_eq_getElem hil)) hlk
   exact⟨ob,u,z1,z2⟩
  ·obtain⟨j,hj,hN⟩:=at_i i y hy
   obtain⟨c,hc⟩:=o.sc.has y (o.sc.fre y (O7 hy))
   obtain⟨ob,u,z1,z2,z3⟩:=tr.val j y c v hN (hg' i j v hj hv) hc
   exact⟨c,ob,u,hc,z1,z2,z3⟩
 have hcl:∀b,sx cl b=true->∃o,H2 b=some (vj o):=fun b hb=>let ⟨o,_,z,_⟩:=caps.2.1 b hb;⟨o,z⟩
 have r2:i8 X.K H2 ds cvs:=rc.mono s12
 obtain⟨vo,hvo,ro⟩:=r2.get hj
 have h1':H2 f=some (vj (W.kla_obj "<lambda>" t.q t.params t.body t.scope cl pm c' ctv)):=by rw[o.tq];exact s12 _ _ h1
 have h2':H2 c'=some (.tbl t.q true):=by rw[o.tq];exact s12 _ _ h2
 have nC:∀b u,H1 b=some u->sx cl b=false:=fun b u hb=>by
  cases qc:sx cl b with
  | false=>rfl
  | true=>rw[(tr.cel b qc).1] at hb;cases hb
 match r,e0,eg with
 | .error c,e0,eg =>
  have e0':(if vk ob=true then (fnd c).map fun d=>(d,ρ) else none)=some (d,ρ'):=e0
  split at e0'
  case isFalse=>cases e0'
  case isTrue ho =>
  obtain⟨d',ef,ee⟩:=rW e0'
  cases ee
  refine⟨t,j,g,f,c',cl,pm,ctv,rfl,hps,LM f c' cl pm ctv o.sc,bd c' cl pm ctv,rfl,h1',h2',cvs,ds,ob,.error c,caps,r2,hj,ho,eg,fun H3 s3=>⟨c,d,rfl,ef,fun v H4 s4 rv=>?_⟩⟩
  have sf:i9 H (ti cl H4):=fun b u hb=>by
   have hb1:=s1 b u hb
   rw[ua (nC b u hb1)]
   exact s4 _ _ (s3 _ _ (s12 _ _ hb1))
  have hc4:∀b,sx cl b=true->∃o,H4 b=some (vj o):=fun b hb=>let ⟨o,z⟩:=hcl b hb;⟨o,s4 _ _ (s3 _ _ z)⟩
  exact q v _ (sy.of sf) (mS.same sf) (Rep.clo (yL hc4) rv) (er.mono sf)
 | .ok (d1,o'),e0,eg =>
  have e0':(if vk ob=true/\v6 (js.getD j 0) (adr ob) ρ=true/\ym S (adr ob)=true/\js.getD j 0<ρ.length then some (D.tup [.str sG,d1],ρ.set (js.getD j 0) (some o')) else none)=some (d,ρ'):=e0
  split at e0'
  case isFalse=>cases e0'
  case isTrue hc =>
  cases e0'
  obtain⟨ho,hsep,hin,_⟩:=hc
  refine⟨t,j,g,f,c',cl,pm,ctv,rfl,hps,LM f c' cl pm ctv o.sc,bd c' cl pm ctv,rfl,h1',h2',cvs,ds,ob,.ok (d1,o'),caps,r2,hj,ho,eg,fun v H3 kq m3 rv ro' p0 hp0=>?_⟩
  have mo:rQ (adr ob) H2:=uN ro
  have cellK:∀b,sx cl b=true->∃o,H3 b=some (vj o):=fun b hb=>by
   obtain⟨oo,z⟩:=hcl b hb
   refine⟨oo,kq b _ (fun hz=>?_) z⟩
   have:=mo b hz
   rw[z] at this
   exact this
  have su:i9 H3 (upd H3 p0 (.tup [.str sG,v])):=bh hp0 _
  have dc:=yL (H:=upd H3 p0 (.tup [.str sG,v])) (cl:=cl) fun b hb=>let ⟨oo,z⟩:=cellK b hb;⟨oo,su _ _ z⟩
  have ro3:Rep X.K (ti cl (upd H3 p0 (.tup [.str sG,v]))) o' (.ref (v7 ob)):=Rep.clo dc (ro'.mono su)
  have rv3:Rep X.K (ti cl (upd H3 p0 (.tup [.str sG,v]))) (.tup [.str sG,d1]) (.ref p0):=Rep.clo dc ⟨p0,[.str sG,v],rfl,vg.of av,_,[v],rfl,rfl,v,[],rfl,rv.mono su,rfl⟩
  have kq1:sy (adr ob) H1 (ti cl (upd H3 p0 (.tup [.str sG,v]))):=fun b u hn hb=>by
   rw[ua (nC b u hb)]
   exact su _ _ (kq b u hn (s12 _ _ hb))
  have m4:rQ (adr ob) (ti cl (upd H3 p0 (.tup [.str sG,v]))):=fun b hb=>by
   have h3:=m3 b hb
   cases hz:H3 b with
   | none=>rw[hz] at h3;exact h3.elim
   | some u =>
    have hnc:sx cl b=false:=by
     cases qc:sx cl b with
     | false=>rfl
     | true=>obtain⟨oo,z⟩:=cellK b qc;rw[z] at h3;exact h3.elim
    rw[ua hnc,su _ _ hz]
    rw[hz] at h3;exact h3
  obtain⟨a1,a2,a3⟩:=Ab er mS (Du eC hj) ho hsep hin s1 kq1 m4 ro3
  exact q _ _ a1 a2 rv3 a3
end
section
variable{X:Cx}{pos:Pos}
end
structure IV (K:N_) (x qual:Str) (st:OE) (f:N9) (fd:OV) (c:N9):Prop where
 ex:∃(oc:N8) (od:N7 N9) (kV doc pm:N8) (an:N7 N9) (ct:N8) (osl:Array (N7 N8)),
  fd=W.fnOf x qual (sR st) (rS st) (e9 st) .none kV doc pm an (.ref c) ct/\K.lookup f=some ⟨oc,od,.func fd,osl⟩/\W.codeIn K (.ref c) qual=true
 kp:W.keepIn K (.ref f)=true
def spT(K:N_)(F:LD->OD)(t:tG):Sp:=fun vs H Q E=>H t.P=some (.tbl t.q false)/\sQ K F vs H Q E
theorem AX{K:N_}{t:xF}(h:∀(c':N9) (cl:List (Str×N9)) (pm ctv:N8) (us:List N8),us.length=t.ps.length->bindArgs (W.kla_fn "<lambda>" t.q t.params t.body t.scope cl pm (.ref c') ctv) ⟨us,[]⟩=pure (t.ps.zip us)) :
  ∀(c':N9) (cl:List (Str×N9)) (pm ctv:N8),Binds K (W.kla_fn "<lambda>" t.q t.params t.body t.scope cl pm (.ref c') ctv) t.ps []:=fun c' cl pm ctv=>.all (h c' cl pm ctv)
theorem qF{K:N_}{x:Str}{f c P:N9}{oc oc2:N8}{od od2:N7 N9}{osl sl2:Array (N7 N8)}{fd:OV}{vs:Array N8}(a:W.nsIn K mainGlobals x=some (some (.ref f)))(l:K.lookup f=some ⟨oc,od,.func fd,osl⟩)(hc:fd.code=.ref c)
  (l2:K.lookup c=some ⟨oc2,od2,.fields vs,sl2⟩) (h:vs[11]?=some (.ref P)):W.tabIn K x=some (c,P):=by
 unfold W.tabIn
 simp only[a,l,hc,l2,h]
def Ks(K:N_)(F:LD->OD)(ts:List tG):Sp:=fun vs H Q E=>∀t,ts=[t]->spT K F t vs H Q E
theorem Ij{K:N_}{F:LD->OD}{H:Hp}{ts:List tG}{a:N9}{vs:List V}{Q:VK}{E:XK}(hO:Dj ts a H)(hP:∀t∈ts,t.P≠a)(h:sQ K F vs H Q E):Ks K F ts vs H Q E:=fun t e=>by
 subst e
 refine⟨?_,h⟩
 rcases hO t.P with ⟨_,z⟩ | ⟨z,_⟩
 ·rw[z];simp[A0]
 ·exact OA z (hP t (Od.mpr rfl))
theorem IJ{P:Oh}{w:Ot}{K:N_}{mg:Str->N7 N8}{base:OC}{k:Nat}{f:N9}{fd:OV}{ps:List Str}{F:LD->OD}{t:tG}(h:k6 P w K mg base rV k f fd ps (spT K F t)):k6 P w K mg base rV k f fd ps (Ks K F [t]):=h.imp fun vs H Q E z=>z t rfl
theorem GE{K:N_}{F G:LD->OD}{t:tG}(h:∀ds d,F ds=some d->G ds=some d):∀vs H Q E,spT K F t vs H Q E->spT K G t vs H Q E:=fun _ _ _ _ ⟨a,ds,d,r,e,q⟩=>⟨a,ds,d,r,h ds d e,q⟩
def JW(X:Cx)(c:List Nat->R->N7 (D×R))(S:List Nat):TE:=fun σ H Q=>∃ ρ τ d ρ',sd X.K H ρ τ σ/\rQ S H/\c S ρ=some (d,ρ')/\∀v H',sy S H H'->rQ S H'->Rep X.K H' d v->sd X.K H' ρ' τ σ->Q v H'
section
variable{X:Cx}{pos p:Pos}{x:Str}{e:OG}{es:List OG}{F:R->N7 LD}{G:LD->N7 (D×D)}{k j:Nat}{ps:List Str}
end
structure EU (K:N_) (mg:Str->N7 N8) (ca:Nat->N9) (Wz:N9):Prop where
 two:∀c,c<2->IP K (ca c) Wz NV NV
 m1:mg "NoDeed" = some (.ref (ca 1))
 mw:mg "WatchError" = some (.ref Wz)
theorem CP{X:Cx}{ca:Nat->N9}{Wz:N9}{e:OG}{f:R->OD}{pos np cpos:Pos}(EK:EU X.K X.mg ca Wz)(hc:X.calm=true)(ha:SE X e f)(hg:Gl X "NoDeed":=by rfl)(hst:noStar e=true:=by rfl):Mx ca X (.Raise (some (.Call (.Name "NoDeed" np) [e] [] cpos)) none pos) (Ck 1 f):=
 Fu (EK.two 1 (by decide)) PySem.F.excBase_ValueError (by decide) hc EK.m1 ha hg (by decide) hst
structure FS (K:N_) (a1 aw:N9):Prop where
 c1:FX K a1 (.ref aw::VE) NV
 cw:FX K aw VE NV
theorem G9{K:N_}{h:OC}{mg:Str->N7 N8}{a1 aw:N9}(X:K.In h)(G:h.Ns mainGlobals mg)(n1:W.nsIn K mainGlobals "NoDeed" = some (some (.ref a1)))(nw:W.nsIn K mainGlobals "WatchError" = some (some (.ref aw)))(p:FS K a1 aw):EU K mg (D_ a1 a1) aw:=by
 refine⟨fun c hc=>?_,Oq X G n1,Oq X G nw⟩
 have:c=0\/c=1:=by omega
 rcases this with rfl | rfl
 ·exact⟨p.c1,p.cw⟩
 ·exact⟨p.c1,p.cw⟩
theorem errp1_mk{K:N_}{a1 aw:N9}{N1:N9}{bs1 Li:List N8}{nm1 q1:Str}{hd1 ab1:Bool}{sn1:List Str}{col1:N7 Bool}{dd1:N7 N9}{k01 k11 k21 k31 k51:N7 N8}{Nw:N9}{bsw subw:List N8}{nmw qw:Str}{hdw abw:Bool}{snw:List Str}{colw:N7 Bool}{ddw:N7 N9}{k0w k1w k2w k3w k5w:N7 N8}
  (l1:K.lookup a1=some (excClassObj nm1 q1 a1 N1 bs1 (.ref aw::VE) hd1 sn1 Li ab1 col1 dd1 k01 k11 k21 k31 k51 NV)) (x1:W.excIn K a1 VE NV=true) (i1:W.nsIn K N1 "__init__" = some none) (g1:W.nsIn K N1 "__getattribute__" = some none) (e1:W.nsIn K N1 "__getattr__" = some none) (rr1:W.nsIn K N1 "__class__" = some none) (lw:K.lookup aw=some (excClassObj nmw qw aw Nw bsw VE hdw snw subw abw colw ddw k0w k1w k2w k3w k5w NV)) (xw:W.excIn K aw VE NV=true) (iw:W.nsIn K Nw "__init__" = some none) (gw:W.nsIn K Nw "__getattribute__" = some none) (ew:W.nsIn K Nw "__getattr__" = some none) (rrw:W.nsIn K Nw "__class__" = some none):FS K a1 aw:=
 ⟨Fb l1 x1 i1 g1 e1 rr1,Fb lw xw iw gw ew rrw⟩
section
variable{X:Cx}{ca:Nat->N9}{Wz:N9}{newId nW:String}{x:Str}{np apos hpos pos:Pos}{b₀:OE}{suite:List OE}{gs:Nat->R->N7 Out}
theorem pM{b1:OE}{tb:L2.St->Hp->(L2.St->Hp->Prop)->(Nat->Hp->Prop)->Prop}(T:∀c,c<2->IP X.K (ca c) Wz newId nW)(hc:X.calm=true)(hcells:X.env.cells=[])(hstk:X.stack=X.env::X.outer)(hfr:X.env.frame=some X.env.locals)(hex:X.ex=[])(hN:X.N.Nodup)(hm:X.mg x=some (.ref Wz))
  (hmn:∀ σ H Qn Qe Qe',(∀c H',Qe c H'->Qe' c H')->tb σ H Qn Qe->tb σ H Qn Qe') (ha:∀pins E,PS (HE X pins E) b1 (fun D σ H=>tb σ H D.nx fun c H'=>XW (HE X pins E) (ca c) H'))
  (hs:∀pins e oe c,c<2->oe.cls=.ref (ca c)->SS (LC X pins e oe) (b₀::suite) (gs c))
  (hgl:Gl X x:=by rfl) (hd:(x==("__debug__" : Str))=false:=by decide) :
  PS X (.Try [b1] [.ExceptHandler (some (.Name x np)) none (b₀::suite) hpos] [] [] pos) (fun D σ H=>tb σ H D.nx fun c H1=>c<2/\∃ ρ',gs c (List.replicate X.N.length none)=some (.nx ρ')/\∀ σ' H',i9 H1 H'->se X.K H' ρ' σ'->D.nx σ' H'):=by
 intro pins s σ H D I q
 refine wpAny_Try_except ?_
 generalize hE:(fun (ev:N8) (s₁:Oa)=>wpAny (model X.prog X.w) X.A (noteFrame ev X.env) (fun _ s₂=>wpAny (model X.prog X.w) X.A (setFlight ev none) (fun _ s₃=>wpAny (model X.prog X.w) X.A (handleBy ev X.env [.ExceptHandler (some (.Name x np)) none (b₀::suite) hpos]) (SP X pins D) X.xe s₃) X.xe s₂) X.xe s₁)=E'
 have body:=(dh (ha pins E')) [] s σ H {nx:=fun σ' H'=>D.nx σ' H',rt:=fun _ _=>False} (KD I) (hmn _ _ _ _ _ (fun c H1 ⟨hc2,k⟩=>by
   rintro e s₁ ⟨pins',σ',B,xa⟩
   rw[<- hE]
   have xe1:Ct B (X.env::X.outer) e (ca c) s₁.heap:=by rw[<- hstk];exact xa.exc
   have IX:L2.Inv X pins σ' H1 s₁:=Dr xa.inv
   refine Bp (by rw[<- hstk];exact IX.ok.frames) hfr xe1 fun h1 x1 u1=>w9 (s:={s₁ with heap:=h1}) x1 fun h2 x2 u2=>?_
   have hlf:X.env.locals∈vf X.stack:=by rw[hstk];exact List.mem_filterMap.mpr ⟨X.env,ON,hfr⟩
   have fsub:∀b∈X.fs,b∈vf X.stack:=fun b hb=>by
    rw[hstk]
    obtain⟨env',z1,z2⟩:=List.mem_filterMap.mp hb
    exact List.mem_filterMap.mpr ⟨env',Oy _ z1,z2⟩
   have stay:∀h':OC,Ct B (X.env::X.outer) e (ca c) h'->s₁.heap.UpToSlots h'->L2.Inv X pins σ' H1 {s₁ with heap:=h' }:=fun h' x' u' =>
    FE IX xa.exc.st x'.st (fun b _ o ho nd=>u' b o ho nd) (fun b o hb hn hx=>xa.ent b o hb (fun hm=>by
     rcases Oj.mp (IX.stkSub b hm) with z | z
     ·rw[z] at hb;exact OA (Ol (Om hb) IX.ok.above) (OX _)
     ·exact hn z) hx) xa.hld (fun p hp=>xa.pin p (O3 _ hp)) (fun y cc hcc=>by rw[hcells] at hcc;cases hcc)
   have I2:=stay h2 x2 (u1.trans u2)
   obtain⟨a0,fl,oe,vs,TT,oT,ts,he,⟨hcls,h0⟩,hdt,r4,r5,r6,r7,r8,r9⟩:=id x2.tr
   refine wpAny_handleBy_cons (codeAny_handlers_test (fu (E:=_) (KH I2 e) hgl hm ?_ hd)) (by intro z;cases z)
   refine EM (T c hc2) I2.kIn he hcls ?_
   refine codeAny_handlers_suite ?_
   refine w9 (s:={s₁ with heap:=h2}) x2 fun h3 x3 u3=>?_
   have I3:=stay h3 x3 ((u1.trans u2).trans u3)
   obtain⟨a0',fl',oe',vs',TT',oT',ts',he',⟨hcls',h0'⟩,hdt',_⟩:=id x3.tr
   have hHe:H1 e=none:=by
    cases z:H1 e with
    | none=>rfl
    | some u=>obtain⟨o',eo⟩:=xa.hld e u z;rw[x3.ne] at eo;cases eo
   have nfr:∀b∈vf X.stack,e≠b:=fun b hb z=>by
    obtain⟨_,o,ho,nd⟩:=x3.fr.mem (by rw[<- hstk];exact hb)
    rw[<- z,he'] at ho
    cases ho
    exact nd vs' hdt'
   have J:=KU I3 he' hHe (nfr _ hlf) (fun z=>nfr e (fsub e z) rfl) (fun v z=>by rw[hdt'] at z;cases z)
   obtain⟨ρ',eg,kk⟩:=k
   have erH:sd X.K H1 (List.replicate X.N.length none) [] σ':=by
    refine⟨⟨by rw[List.length_replicate,I3.len];exact Oo _,fun i d hi=>?_⟩,?_⟩
    ·rw[List.getElem?_replicate] at hi
     split at hi<;>cases hi
    ·rw[List.length_replicate,<- I3.len]
     exact List.drop_eq_nil_of_le (Oo _)
   refine Pe (hs pins e oe' c hc2 hcls' [] _ _ H1 {nx:=fun σ5 H5=>i9 H1 H5/\se X.K H5 ρ' σ5,rt:=fun _ _=>False} J ⟨_,[],.nx ρ',erH,eg,fun H5 t5 σ5 er5=>⟨t5,er5.1⟩⟩) (fun fl5 s5 h5=>?_) fun _ _ z=>False.elim z
   cases fl5 with
   | next =>
    obtain⟨σ5,H5,J5,t5,er5⟩:=h5
    exact⟨σ5,H5,Hh J5 I.ok.hd,kk _ H5 t5 er5⟩
   | brk=>obtain⟨_,_,_,z⟩:=h5;exact z.elim
   | cont=>obtain⟨_,_,_,z⟩:=h5;exact z.elim
   | ret u=>obtain⟨_,_,_,_,_,z⟩:=h5;exact z.elim) q)
 refine Pe body (fun fl s₁ h=>?_) (fun ev s₁ h=>h)
 cases fl with
 | next =>
  obtain⟨σ',H',J,k⟩:=h
  exact wpAny_execs_nil ⟨σ',H',Dr J,k⟩
 | brk=>obtain⟨_,_,_,z⟩:=h;exact z.elim
 | cont=>obtain⟨_,_,_,z⟩:=h;exact z.elim
 | ret u=>obtain⟨_,_,_,_,_,z⟩:=h;exact z.elim
end
section
variable{X:Cx}{ca:Nat->N9}{Wz:N9}{y dn:Str}{np dp cp tp yp yp2 rp lp apos hpos pos:Pos}{b₀:OE}{suite:List OE}{gs:Nat->R->N7 Out}{k:Nat}{x1:_}{js1:_}
theorem nN{fnd:Nat->OD}(i jf:Nat)(EK:EU X.K X.mg ca Wz)(hr:rO k X.A)(hc:X.calm=true)(hcells:X.env.cells=[])(hstk:X.stack=X.env::X.outer)(hfr:X.env.frame=some X.env.locals)(hex:X.ex=[])(hN:X.N.Nodup)
  (hs:∀pins e oe c,c<2->oe.cls=.ref (ca c)->SS (LC X pins e oe) (b₀::suite) (gs c)) (hf:∀c d,fnd c=some d->c<2/\∃ ρ',gs c (List.replicate X.N.length none)=some (.nx ρ')/\g4 jf ρ'=some d)
  (hiN:X.N[i]?=some dn:=by rfl) (hiv:BS X.env.scope dn:=by first | exact Or.inl rfl | exact Or.inr (Or.inl rfl) | exact Or.inr (Or.inr rfl)) (Kq:(dn==("__debug__" : Str))=false:=by decide) (hicd:(dn==("__classdict__" : Str))=false:=by decide)
  (hyN:X.N[jf]?=some y:=by rfl) (hyl:Loc X.env.scope y:=by first | exact Or.inl rfl | exact Or.inr rfl) (hyv:BS X.env.scope y:=by first | exact Or.inl rfl | exact Or.inr (Or.inl rfl) | exact Or.inr (Or.inr rfl)) (hyd:(y==("__debug__" : Str))=false:=by decide) (hycd:(y==("__classdict__" : Str))=false:=by decide)
  (hyf:X.fn y=true\/X.env.scope.names.lookup y=some .local:=by first | exact .inl rfl | exact .inr rfl) (hlt:jf<X.N.length:=by decide)
  (hsw:swapsWith (.Tuple [.Constant (.str sG) js1 lp,.Call (.Name dn dp) [] [] cp] x1 tp) (some (.Name y yp)) apos.line X.env=pure false:=by rfl)
  (hgl:Gl X "WatchError":=by rfl) :
  PSs X [.Try [.Assign [.Name y yp] (.Tuple [.Constant (.str sG) js1 lp,.Call (.Name dn dp) [] [] cp] x1 tp) apos] [.ExceptHandler (some (.Name "WatchError" np)) none (b₀::suite) hpos] [] [] pos,.Return (some (.Name y yp2)) rp]
   (fun E σ H=>σ.length=X.N.length/\∃f,σ[i]?=some (some (.ref f))/\yR X.prog X.w X.K X.mg X.base ca k fnd [.ref f] H E.rt E0):=by
 intro pins s σ H E I ⟨hlen,f,hσ,t,jj,g,f',c',cl,pm,ctv,hv,hps,hF,bd,hsp⟩
 cases hv
 have hb1:∀(pins:List (N9×Obj)) (E:N8->Oa->Prop),PS (HE X pins E) (.Assign [.Name y yp] (.Tuple [.Constant (.str sG) js1 lp,.Call (.Name dn dp) [] [] cp] x1 tp) apos) (fun D σ H=>σ[i]?=some (some (.ref f))/\x6 ca X.K t jj g f c' cl pm ctv [] H (fun v H1=>∀p,H1 p=none->D.nx (σ.set jf (some (.ref p))) (upd H1 p (.tup [.str sG,v]))) (fun Cv _ H1=>∃c,Cv=.ref (ca c)/\XW (HE X pins E) (ca c) H1)):=fun pins E =>
  (gx (X:=HE X pins E) (i:=jf) hN hyN hyl (mv (gb Fs (gb (nU (X:=HE X pins E) (i:=i) (p:=dp) (pos:=cp) hF bd hr hiN hiv Kq hicd) AD))) hsw hyf).imp fun D σ H ⟨h1,h2⟩=>by
   refine⟨h1,h2.2.1,h2.imp (fun v H1 q=>⟨?_,fun p hp=>q p hp⟩) fun c H1 ⟨c2,e,z⟩=>⟨_,e,z⟩⟩
   exact OH (show 2<=1000 by decide) (by decide)
 have key:=dM (pM (X:=X) (ca:=ca) (x:="WatchError") (np:=np) (hpos:=hpos) (pos:=pos) (b₀:=b₀) (suite:=suite) (gs:=gs)
  (tb:=fun σ H Qn Qe=>σ[i]?=some (some (.ref f))/\x6 ca X.K t jj g f c' cl pm ctv [] H (fun v H1=>∀p,H1 p=none->Qn (σ.set jf (some (.ref p))) (upd H1 p (.tup [.str sG,v]))) (fun Cv _ H1=>∃c,Cv=.ref (ca c)/\Qe c H1))
  EK.two hc hcells hstk hfr hex hN EK.mw
  (fun σ H Qn Qe Qe' hq ⟨h1,h2⟩=>⟨h1,h2.imp (fun _ _ z=>z) fun c H' ⟨c2,e,z⟩=>⟨c2,e,hq _ _ z⟩⟩)
  hb1 hs hgl (by decide)) (dh (j4 (pos:=rp) (pv jf (pos:=yp2) hyN hyv hyd hycd)))
 refine key pins s σ H E I ⟨hσ,hsp.imp (fun v H1 q p hp=>⟨.ref p,?_,q p hp⟩) fun c H1 ⟨c2,d,e2,e3,q⟩=>⟨c2,e2,?_⟩⟩
 ·rw[O5 (by omega)]
 ·obtain⟨hc2,hg⟩:=hf c2 d e3
  obtain⟨ρ',eg,ev⟩:=hg
  refine⟨hc2,ρ',eg,fun σ' H' t er'=>?_⟩
  obtain⟨v,hv,rv⟩:=er'.at ev
  exact⟨v,hv,q v H' t rv⟩
end
theorem rD{P:Oh}{w:Ot}{K:N_}{mg:Str->N7 N8}{base:OC}{CX:AK}{k:Nat}{f:N9}{fd:OV}{ps:List Str}{sp:Sp}(h:k6 P w K mg base rV k f fd ps sp):k6 P w K mg base CX k f fd ps sp:=
 ⟨h.len,fun A outer s H args us vs Q E hr e b v q=>codeAny_mono (h.run A outer s H args us vs Q E hr e b v q) fun r s' z=>by
  match r,z with
  | .ok (.ret u),z=>exact z
  | .error e,z=>exact False.elim z⟩
theorem xx.x{ca:Nat->N9}{P:Oh}{w:Ot}{K:N_}{mg:Str->N7 N8}{base:OC}{k C:Nat}{m:Str}{ps:List Str}{G:LD->N7 (D×D)}(h:xx P w K mg base k C m ps G):vJ ca P w K mg base k C m ps (fun ds=>(G ds).map .ok):=by
 obtain⟨f,fd,F,hm,b⟩:=h.ex
 refine⟨f,fd,(rD F).imp fun vs H Q E ⟨ob,ds,r,hl,rr,ho,e,q⟩=>?_,hm,b⟩
 obtain⟨⟨d,o'⟩,e1,e2⟩:=rW e
 subst e2
 exact⟨ob::ds,ob,d,o',rr,rfl,ho,e1,q⟩
theorem AT.same{K:N_}{H H1:Hp}{ob:D}{Q:VK}{Er:Nat->Hp->Prop}{r:Except Nat (D×D)}(s:i9 H H1)(h:AT K H ob Q Er r):AT K H1 ob Q Er r:=by
 match r,h with
 | .ok (d,o'),h=>exact fun v H' a b c e=>h v H' ((sy.of s).trans a) b c e
 | .error c,h=>exact fun H' s'=>h H' (s.trans s')
section
variable{X:Cx}{ca:Nat->N9}{pos apos:Pos}{k C:Nat}{mn x:Str}{ps:List Str}{G:LD->N7 (Except Nat (D×D))}{e:OG}{es:List OG}{F:R->N7 LD}
theorem j7 (j:Nat) (c:vI X.K C) (M:vJ ca X.prog X.w X.K X.mg X.base k C mn ps G) (hr:rO k X.A) (ha:SA X (e::es) F) (hps:∀ ρ ds,F ρ=some ds->ds.length+1=ps.length) {px:Pos} (hN:X.N[j]?=some x:=by rfl) (hv:BS X.env.scope x:=by first | exact Or.inl rfl | exact Or.inr (Or.inl rfl) | exact Or.inr (Or.inr rfl))
    (hd:(x==("__debug__" : Str))=false:=by decide) (hcd:(x==("__classdict__" : Str))=false:=by decide) {pl:Sem Bool}
    (ht:eval (.Call (.Attribute (.Name x px) mn apos) (e::es) [] pos) X.env=(do
      let ov <- eval (.Name x px) X.env
      standAt apos.atName
      let (f,first) <- holding [ov] (getMethod ov mn pl)
      callWith pos f first (backTo pos (starEach (e::es) X.env)) (backToKw pos (keywordEach [] X.env))):=by rfl):PE X (.Call (.Attribute (.Name x px) mn apos) (e::es) [] pos) (MP ca X j (tP C mn j G F)):=by
  have hst:=ha.2.2
  rw[O2,Oe] at hst
  have he:=aJ es X.env hst.1
  have hpl:=bQ (pos:=pos) (env:=X.env) hst.2
  obtain⟨f,fd,a,hm,bd⟩:=M.ex
  refine(mO (pv j (pos:=px) hN hv hd hcd) c hm a hr bd .nil Fj ha.1 he hpl ht).imp fun σ H Q ⟨ρ,ob,r,er,hat,ho,e,q⟩=>?_
  obtain⟨ob',e1,z1⟩:=i5 e
  rw[hat] at e1
  cases e1
  obtain⟨ds,e2,z2⟩:=i5 z1
  clear e z1
  match ob,z2,hat,ho,q with
  | .obj kk a ks es',z2,hat,ho,q =>
    have e:(if kk=C+2/\ks.contains mn=false then G (.obj kk a ks es'::ds) else none)=some r:=z2
    split at e
    case isFalse=>cases e
    case isTrue hc =>
    obtain⟨rfl,hk⟩:=hc
    obtain⟨v,hσ,rv⟩:=er.at hat
    have rv':=rv
    obtain⟨xs,ev,⟨hl,dx,hH⟩,t⟩:=rv
    subst ev
    refine⟨.ref a,hσ,a,dx,_,rfl,hH,vQ hk,ρ,ds,er,e2,fun vs H1 s1 r1=>?_⟩
    show Hk ca X.K ps.length G (.ref a::(vs++[])) H1 Q _
    rw[OQ]
    exact⟨.obj (C+2) a ks es',ds,r,hps ρ ds e2,⟨_,vs,rfl,rv'.mono s1,r1⟩,rfl,e,(q.same s1).imp (fun _ _ z=>z) fun c H' z=>⟨_,rfl,z⟩⟩
end
theorem zo{X:Cx}{t:xF}{ct:tG}{x y:Str}{c d:N9}{j l:Nat}(TB:tR X.mg [ct] X.base)(hT:X.H₀ ct.P=some (.tbl ct.q false))(tq:t.q=ct.q)(code:X.env.code=.ref ct.c)(qual:X.env.qual ++ "<lambda>" = ct.q)
  (fn:∀x,X.fn x=true) (hcl:closureFor t.scope X.env=pure [(x,c),(y,d)]) (hdf:defaultsOf t.params X.env=([],[])) (hcell:X.env.cells.lookup x=some c) (hcell2:X.env.cells.lookup y=some d) (hk:X.env.scope.names.lookup x=some .cell) (hk2:X.env.scope.names.lookup y=some .cell) (hN:X.N[j]?=some x) (hN2:X.N[l]?=some y) (hxy:x≠y) (hcd:c≠d)
  (kd:t.scope.kind=.function) (co:t.scope.isCoroutine=false) (gen:t.scope.isGenerator=false) (nd:t.N.Nodup) (hn:t.N=t.ps++[x,y]) (par:∀z∈t.ps,t.scope.names.lookup z=some .local) (noc:∀z∈t.scope.names,z.2≠.cell)
  (fre:t.scope.names.lookup x=some .free) (fre2:t.scope.names.lookup y=some .free) (only:∀z∈t.scope.names,z.2=.free->z.1=x\/z.1=y):CQ X t [(x,c),(y,d)] ct [j,l]:=by
 have hdr:t.N.drop t.ps.length=[x,y]:=by rw[hn,List.drop_left]
 have lk:∀z c',List.lookup z [(x,c),(y,d)]=some c'->(z=x/\c'=c)\/(z=y/\c'=d):=fun z c' h=>by
  rw[List.lookup_cons] at h
  cases q:z==x with
  | true=>rw[q] at h;cases h;exact .inl ⟨Pn q,rfl⟩
  | false =>
   rw[q] at h
   have h':List.lookup z [(y,d)]=some c':=h
   rw[List.lookup_cons] at h'
   cases q2:z==y with
   | true=>rw[q2] at h';cases h';exact .inr ⟨Pn q2,rfl⟩
   | false=>rw[q2] at h';cases h'
 have lkx:List.lookup x [(x,c),(y,d)]=some c:=by rw[List.lookup_cons];simp
 have lky:List.lookup y [(x,c),(y,d)]=some d:=by
  rw[List.lookup_cons,show(y==x)=false from OP.mpr (Ne.symm hxy)]
  show List.lookup y [(y,d)]=_
  rw[List.lookup_cons];simp
 refine⟨TB,hT,tq,code,qual,hcl,hdf,⟨fn,by simp[hxy,hcd],fun z c' h=>?_⟩,⟨kd,co,gen,nd,by rw[hn,List.take_left],par,noc,fun z hz=>?_,fun z hz=>?_,by simp[hxy],fun a b c' h1 h2=>?_⟩,by rw[hdr];simp[hN,hN2],fun z c' h=>?_⟩
 ·rcases lk z c' h with ⟨rfl,rfl⟩ | ⟨rfl,rfl⟩
  ·exact⟨hcell,hk⟩
  ·exact⟨hcell2,hk2⟩
 ·rw[hdr] at hz
  rcases Oj.mp hz with rfl | hz
  ·exact fre
  ·rw[Od.mp hz];exact fre2
 ·rcases only _ (O0 hz) rfl with h | h
  ·rw[show z=x from h];exact⟨c,lkx⟩
  ·rw[show z=y from h];exact⟨d,lky⟩
 ·rcases lk a c' h1 with ⟨rfl,rfl⟩ | ⟨rfl,rfl⟩<;>rcases lk b _ h2 with ⟨rfl,h⟩ | ⟨rfl,h⟩
  ·rfl
  ·exact OA h hcd
  ·exact OA h.symm hcd
  ·rfl
 ·rw[hdr]
  rcases lk z c' h with ⟨rfl,rfl⟩ | ⟨rfl,rfl⟩
  ·exact ON
  ·exact Oy _ ON
end HW
namespace HW
open PySem
abbrev MC:=List Nat->R->N7 (D×R)
def HM(c:MC)(i:Nat):MU:=fun S ρ=>(c S ρ).bind fun p=>if i<p.2.length then some (.nx (p.2.set i (some p.1))) else none
def Af(c:MC):MU:=fun S ρ=>(c S ρ).map fun p=>.rt p.1 p.2
def Fq(c:MC)(F:D->D->N7 Bool)(h:R->OD)(p:R->N7 Bool)(u w:MU):MU:=fun S ρ=>(c S ρ).bind fun q=>(h q.2).bind fun y=>(F q.1 y).bind fun b=>if b then u S q.2 else (p q.2).bind fun b2=>if b2 then u S q.2 else w S q.2
def E5(p:R->N7 Bool)(c:MC)(F:D->D->N7 Bool)(h:R->OD)(u w:MU):MU:=fun S ρ=>(p ρ).bind fun b=>if b then u S ρ else (c S ρ).bind fun q=>(h q.2).bind fun y=>(F q.1 y).bind fun b2=>if b2 then u S q.2 else w S q.2
end HW
namespace HW
open PySem PySem.Spec PyProof.Rows L2
section
variable{X:Cx}{pos:Pos}{c:MC}{u w:MU}
theorem pQ{x:Str}{e:OG}{px:Pos}(i:Nat)(hNd:X.N.Nodup)(he:∀S,PE X e (JW X c S))(hN:X.N[i]?=some x:=by rfl)(hx:Loc X.env.scope x:=by first | exact Or.inl rfl | exact Or.inr rfl)(hs:swapsWith e (some (.Name x px)) pos.line X.env=pure false:=by rfl)(hf:X.fn x=true\/X.env.scope.names.lookup x=some .local:=by first | exact .inl rfl | exact .inr rfl) :
  MS X (.Assign [.Name x px] e pos) (HM c i):=fun S=>(gx hNd hN hx (he S) hs hf).imp fun E σ H ⟨ρ,τ,o,er,m,eq,q⟩=>by
 obtain⟨⟨d,ρ'⟩,e1,eq⟩:=i5 eq
 split at eq
 case isFalse=>cases eq
 case isTrue hi =>
 cases eq
 exact⟨ρ,τ,d,ρ',er,m,e1,fun v H1 k1 m1 rv er1=>q H1 k1 m1 _ (er1.set hi rv)⟩
theorem ig{e:OG}(he:∀S,PE X e (JW X c S)):MS X (.Return (some e) pos) (Af c):=fun S=>(j4 (he S)).imp fun E σ H ⟨ρ,τ,o,er,m,eq,q⟩=>by
 obtain⟨⟨d,ρ'⟩,e1,rfl⟩:=rW eq
 exact⟨ρ,τ,d,ρ',er,m,e1,fun v H1 k1 m1 rv er1=>q H1 k1 m1 v rv (HK.of er1.1)⟩
theorem oW{e b e2:OG}{B1 B2:List OE}{op:CmpOp}{F:D->D->N7 Bool}{h:R->OD}{p:R->N7 Bool}{pc pb:Pos}(ho:B9 X op F)(ht:∀S,PE X e (JW X c S))(hb:SE X b h)(hp:ST X e2 p)(h1:Bx X B1 u)(h2:Bx X B2 w)(hm:behindInMarks op b=false:=by first | exact Av _ | with_unfolding_all rfl) :
  MS X (.If (.BoolOp .Or [.Compare e [op] [b] pc,e2] pb) B1 B2 pos) (Fq c F h p u w):=fun S=>(jw (PW.pt (E_ (kj ho (ht S) hb hm) (CG hp))) (h1 S) (h2 S)).imp fun E σ H ⟨ρ,τ,o,er,m,eq,q⟩=>by
 obtain⟨⟨d,ρ'⟩,e1,eq⟩:=i5 eq
 obtain⟨y,e2,eq⟩:=i5 eq
 obtain⟨bb,e3,eq⟩:=i5 eq
 refine⟨ρ,τ,d,ρ',er,m,e1,fun v H1 k1 m1 rv er1=>⟨ρ',y,er1.1,e2,fun v2 H2 s2 r2=>⟨d,y,bb,rv.mono s2,r2,e3,bb,rfl,?_⟩⟩⟩
 cases bb with
 | true =>
  rw[Of rfl] at eq ⊢
  exact⟨ρ',τ,o,er1.mono s2,m1.same s2,eq,fun H3 k3 m3=>q H3 (k1.trans ((sy.of s2).trans k3)) m3⟩
 | false =>
  rw[Ov Oi] at eq ⊢
  obtain⟨b2,e4,eq⟩:=i5 eq
  refine⟨ρ',b2,(er1.mono s2).1,e4,fun H4 s4=>?_⟩
  cases b2 with
  | true =>
   rw[Of rfl] at eq ⊢
   exact⟨ρ',τ,o,(er1.mono s2).mono s4,(m1.same s2).same s4,eq,fun H3 k3 m3=>q H3 (k1.trans ((sy.of s2).trans ((sy.of s4).trans k3))) m3⟩
  | false =>
   rw[Ov Oi] at eq ⊢
   exact⟨ρ',τ,o,(er1.mono s2).mono s4,(m1.same s2).same s4,eq,fun H3 k3 m3=>q H3 (k1.trans ((sy.of s2).trans ((sy.of s4).trans k3))) m3⟩
theorem oP{e b e2:OG}{B1 B2:List OE}{op:CmpOp}{F:D->D->N7 Bool}{h:R->OD}{p:R->N7 Bool}{pc pb:Pos}(hp:ST X e2 p)(ho:B9 X op F)(ht:∀S,PE X e (JW X c S))(hb:SE X b h)(h1:Bx X B1 u)(h2:Bx X B2 w)(hm:behindInMarks op b=false:=by first | exact Av _ | with_unfolding_all rfl) :
  MS X (.If (.BoolOp .Or [e2,.Compare e [op] [b] pc] pb) B1 B2 pos) (E5 p c F h u w):=fun S=>(jw (PW.pt (E_ hp (CG (kj ho (ht S) hb hm)))) (h1 S) (h2 S)).imp fun E σ H ⟨ρ,τ,o,er,m,eq,q⟩=>by
 obtain⟨b1,e0,eq⟩:=i5 eq
 refine⟨ρ,b1,er.1,e0,fun H0 s0=>?_⟩
 cases b1 with
 | true =>
  rw[Of rfl] at eq ⊢
  exact⟨ρ,τ,o,er.mono s0,m.same s0,eq,fun H3 k3 m3=>q H3 ((sy.of s0).trans k3) m3⟩
 | false =>
  rw[Ov Oi] at eq ⊢
  obtain⟨⟨d,ρ'⟩,e1,eq⟩:=i5 eq
  obtain⟨y,e2,eq⟩:=i5 eq
  obtain⟨bb,e3,eq⟩:=i5 eq
  refine⟨ρ,τ,d,ρ',er.mono s0,m.same s0,e1,fun v H1 k1 m1 rv er1=>⟨ρ',y,er1.1,e2,fun v2 H2 s2 r2=>⟨d,y,bb,rv.mono s2,r2,e3,bb,rfl,?_⟩⟩⟩
  cases bb with
  | true =>
   rw[Of rfl] at eq ⊢
   exact⟨ρ',τ,o,er1.mono s2,m1.same s2,eq,fun H3 k3 m3=>q H3 ((sy.of s0).trans (k1.trans ((sy.of s2).trans k3))) m3⟩
  | false =>
   rw[Ov Oi] at eq ⊢
   exact⟨ρ',τ,o,er1.mono s2,m1.same s2,eq,fun H3 k3 m3=>q H3 ((sy.of s0).trans (k1.trans ((sy.of s2).trans k3))) m3⟩
end
def IT(K:N_)(j:Nat)(G:LD->N7 (D×D))(t:tG):Sp:=fun vs H Q E=>H t.P=some (.tbl t.q false)/\D2 K j G vs H Q E
structure Ac (P:Oh) (w:Ot) (K:N_) (mg:Str->N7 N8) (base:OC) (k:Nat) (x:Str) (ps:List Str) (j:Nat) (G:LD->N7 (D×D)) (t:tG):Prop where
 ex:∃f fd,k6 P w K mg base rV k f fd ps (IT K j G t)/\mg x=some (.ref f)/\W.keepIn K (.ref f)=true/\Binds K fd ps []
theorem Ac.m{P:Oh}{w:Ot}{K:N_}{mg:Str->N7 N8}{base:OC}{k k' j:Nat}{x:Str}{ps:List Str}{G:LD->N7 (D×D)}{t:tG}(h:Ac P w K mg base k x ps j G t)(hk:k<=k':=by decide):Ac P w K mg base k' x ps j G t:=by
 obtain⟨f,fd,a,b⟩:=h.ex
 exact⟨f,fd,a.mono hk,b⟩
section
variable{X:Cx}{pos p:Pos}{x:Str}{e:OG}{es:List OG}{F:R->N7 LD}{G:LD->N7 (D×D)}{k j:Nat}{ps:List Str}{t:tG}
theorem gL(i:Nat)(C:Ac X.prog X.w X.K X.mg X.base k x ps j G t)(hT:X.H₀ t.P=some (.tbl t.q false))(hr:rO k X.A)(ha:SA X (e::es) F)(hF:∀ ρ ds ob,F ρ=some ds->g4 i ρ=some ob->ds[j]?=some ob)(hg:Gl X x:=by rfl)(hdb:(x==("__debug__" : Str))=false:=by decide) :
  ∀S,PE X (.Call (.Name x p) (e::es) [] pos) (JW X (vR i G F) S):=by
 have hst:=ha.2.2
 rw[O2,Oe] at hst
 have he:=aJ es X.env hst.1
 have hpl:=bQ (pos:=pos) (env:=X.env) hst.2
 obtain⟨f,fd,a,m,kp,bd⟩:=C.ex
 intro S pins s σ H Q I ⟨ρ,τ,d,ρ',er,mS,e,q⟩
 obtain⟨ρ1,ds,er1,e1,run⟩:=pi hF er mS e q
 exact jL a hr hg m kp bd .nil xE ha.1 hdb he hpl pins s σ H Q I ⟨ρ1,ds,er1,e1,fun vs H1 s1 r1=>⟨s1 _ _ (I.base.tbls _ _ _ hT),run vs H1 s1 r1⟩⟩
end
theorem nX{P:Oh}{w:Ot}{K:N_}{mg:Str->N7 N8}{base:OC}{x qual:Str}{st:OE}{f:N9}{fd:OV}{N ps:List Str}{k j:Nat}{g:MU}{t:tG}
  (Fn:IV K x qual st f fd t.c) (Sc:i4 N ps (e9 st))
  (hb:∀(A:OJ) (outer:List Env) (s:Oa) (H:Hp) (E:XK),rO k (A.deeper (envOfC qual (e9 st) s.heap.objs.size f (.ref t.c)))->H t.P=some (.tbl t.q false)->Bx (uV rV P w K mg base N qual (e9 st) f (.ref t.c) A outer s H E).nox (rS st) g) :
  k6 P w K mg base rV (k+1) f fd ps (IT K j (yq ps.length N.length j g) t):=by
 obtain⟨oc,od,kV,doc,pm,an,ctv,osl,rfl,lk,hcd⟩:=Fn.ex
 refine pk lk hcd Sc (fun vs H Q E h=>?_) (fun A outer s H vs Q E hr h=>?_)
 ·obtain⟨_,ds,ob,d,o',r,hj,ho,e,_⟩:=h
  rw[<- r.length]
  unfold yq at e
  split at e
  ·assumption
  ·cases e
 ·obtain⟨hT,ds,ob,d,o',r,hj,ho,e,q⟩:=h
  unfold yq at e
  split at e
  case isFalse=>cases e
  case isTrue hlen =>
  rw[hj,Oc,Of ho] at e
  obtain⟨mo,e1,e⟩:=i5 e
  obtain⟨v,hv,rv⟩:=r.get hj
  have ms:=uN rv
  refine⟨_,(hb A outer s H E hr hT (adr ob)).nox,yo N.length ds,_,mo,(wn r).t,ms,e1,fun H1 k1 m1=>?_⟩
  cases mo with
  | rt d' ρ =>
   intro v rv ob1
   obtain⟨ob',e2,e⟩:=i5 e
   split at e
   ·rename_i hc
    obtain⟨rfl,rfl⟩:d'=d/\ob'=o':=by simpa using e
    have hat:ρ[j]?=some (some ob'):=wm e2
    have rr:=ob1 j ob' hat hc.1
    have ha:v7 ob'=v7 ob:=wy hc.1 ho hc.2
    rw[ha] at rr
    exact q v H1 k1 m1 rv rr
   ·cases e
  | nx ρ =>
   intro σ' er'
   obtain⟨ob',e2,e⟩:=i5 e
   split at e
   ·rename_i hc
    obtain⟨rfl,rfl⟩:D.non=d/\ob'=o':=by simpa using e
    have hat:ρ[j]?=some (some ob'):=wm e2
    have rr:=(HK.of er'.1) j ob' hat hc.1
    have ha:v7 ob'=v7 ob:=wy hc.1 ho hc.2
    rw[ha] at rr
    exact q .non H1 k1 m1 rfl rr
   ·cases e
theorem qd{P:Oh}{w:Ot}{K:N_}{mg:Str->N7 N8}{base:OC}{x qual:Str}{st:OE}{f:N9}{fd:OV}{N ps:List Str}{k:Nat}{F:LD->OD}{g:R->N7 Out}{t:tG}
  (Fn:sr K x qual st f fd) (S:i4 N ps (e9 st)) (hlen:∀ds d,F ds=some d->ds.length=ps.length)
  (hb:∀(cdv:N8) (A:OJ) (outer:List Env) (s:Oa) (H:Hp) (E:XK),rO k (A.deeper (envOfC qual (e9 st) s.heap.objs.size f cdv))->H t.P=some (.tbl t.q false)->SS (uV rV P w K mg base N qual (e9 st) f cdv A outer s H E).nox (rS st) g)
  (hF:∀ds d,F ds=some d->wM (g (yo N.length ds))=some d):k6 P w K mg base rV (k+1) f fd ps (spT K F t):=by
 refine Fn.ok S (fun vs H Q E h=>?_) (fun cdv A outer s H vs Q E hr h=>?_)
 ·obtain⟨_,ds,d,r,e,_⟩:=h
  rw[<- r.length]
  exact hlen ds d e
 ·obtain⟨hT,ds,d,r,e,q⟩:=h
  refine⟨_,hb cdv A outer s H E hr hT,?_⟩
  have z:=hF ds d e
  cases ho:g (yo N.length ds) with
  | none=>rw[ho] at z;cases z
  | some o =>
   rw[ho] at z
   refine⟨yo N.length ds,_,o,(wn r).t,ho,fun H1 s1=>?_⟩
   cases o with
   | rt d'=>cases (show d'=d from Ow z);exact fun v rv=>q v H1 s1 rv
   | nx ρ=>cases (show D.non=d from Ow z);exact fun σ _=>q .non H1 s1 rfl
   | bk ρ=>cases z
   | ct ρ=>cases z
theorem Ic.c{X:Cx}{e:OG}{j:Nat}{js:List Nat}{g:MX}{fnd:Nat->OD}(h:Ic X e j js g fnd):∀S,PE X e (JW X (vG j js g fnd) S):=h
theorem Jd{f:R->OD}:∀ ρ ds,e8 f g5 ρ=some ds->ds.length+1=2:=fun ρ ds h=>by
 obtain⟨d,_,h2⟩:=i5 h
 obtain⟨x,e,rfl⟩:=rW h2
 cases e;rfl
end HW
namespace HW
open PySem
inductive vZ | none | hour | minute | zero | ahour | aminute | alarm | run | lap | cminute | csecond | full | count
 deriving DecidableEq,Inhabited
inductive uS | a | b | c
 deriving DecidableEq,Inhabited
inductive Face | time | alarm | laps | count
 deriving DecidableEq,Inhabited
noncomputable def vZ.x:vZ->Str
 | .none=>oS "none" | .hour=>oS "hour" | .minute=>oS "minute" | .zero=>oS "zero" | .ahour=>oS "ahour" | .aminute=>oS "aminute" | .alarm=>oS "alarm"
 | .run=>oS "run" | .lap=>oS "lap" | .cminute=>oS "cminute" | .csecond=>oS "csecond" | .full=>oS "full" | .count=>oS "count"
def uS.x:uS->Str
 | .a=>oS "a" | .b=>oS "b" | .c=>oS "c"
def uS.X:uS->Str
 | .a=>oS "A" | .b=>oS "B" | .c=>oS "C"
def uS.ix:uS->Nat
 | .a=>0 | .b=>1 | .c=>2
def Face.x:Face->Str
 | .time=>oS "time" | .alarm=>oS "alarm" | .laps=>oS "laps" | .count=>oS "count"
structure Md where
 face:Face
 stays:Bool
 rows:List (vZ×Nat)
 deriving Inhabited
structure Bk where
 hold:Int
 back:Int
 modes:List Md
structure WS where
 mode:Nat
 clock:Int
 ah:Int
 am:Int
 aon:Bool
 lm:Int
 lr:Bool
 lk:List Int
 cm:Int
 cs:Int
 cl:Int
 cr:Bool
 ring:Int
 held:N7 (uS×N7 Int)
 idle:Int
def yW(r:vZ×Nat):D:=.tup [.str r.1.x,.int (r.2:Int)]
def Md.d(m:Md):D:=.tup [.str m.face.x,.bl m.stays,.tup (m.rows.map yW)]
def Bk.d(b:Bk):D:=.tup [.int b.hold,.int b.back,.tup (b.modes.map Md.d)]
noncomputable def sF:N7 Int->D
 | .none=>.non
 | .some k=>.int k
def um:N7 (uS×N7 Int)->D
 | .none=>.non
 | .some (x,k)=>.tup [.str x.x,sF k]
def WS.alarmD(s:WS):D:=.tup [.int s.ah,.int s.am,.bl s.aon]
def WS.lapsD(s:WS):D:=.tup [.int s.lm,.bl s.lr,.tup (s.lk.map .int)]
def WS.countD(s:WS):D:=.tup [.int s.cm,.int s.cs,.int s.cl,.bl s.cr]
def WS.d(s:WS):D:=.tup [.int (s.mode:Int),.int s.clock,s.alarmD,s.lapsD,s.countD,.int s.ring,um s.held,.int s.idle]
structure Md.Ok (n:Nat) (m:Md):Prop where
 six:m.rows.length=6
 nx:∀r∈m.rows,r.2<n
structure Bk.Ok (b:Bk):Prop where
 hold1:1<=b.hold
 hold9:b.hold<=9
 back0:0<=b.back
 back60:b.back<=60
 some1:1<=b.modes.length
 some8:b.modes.length<=8
 all:∀m∈b.modes,m.Ok b.modes.length
structure WS.Wk (b:Bk) (s:WS):Prop where
 bk:0<=b.back
 mode:s.mode<b.modes.length
 clock0:0<=s.clock
 clock1:s.clock<86400
 ah0:0<=s.ah
 ah1:s.ah<24
 am0:0<=s.am
 am1:s.am<60
 lm0:0<=s.lm
 lk:s.lk.length<=4
 cm0:0<=s.cm
 cm1:s.cm<60
 cs0:0<=s.cs
 cs1:s.cs<60
 cl0:0<=s.cl
 cl1:s.cl<3600
 cr:s.cr=true->0<s.cl
 ring0:0<=s.ring
 ring1:s.ring<=10
 idle0:0<=s.idle
 idle1:0<b.back->s.idle<b.back
 idle2:b.back=0->s.idle=0
structure WS.Ok (b:Bk) (s:WS):Prop extends WS.Wk b s where
 held:∀x k,s.held=some (x,some k)->0<=k/\k<b.hold
noncomputable def wI(s:WS)(m c:Int):WS:=if s.cr then s else {s with cm:=m,cs:=c,cl:=60*m+c,cr:=false}
def deed:vZ->WS->WS
 | .none,s=>s
 | .hour,s=>{s with clock:=(s.clock+3600)%86400}
 | .minute,s=>{s with clock:=s.clock - s.clock%3600+(s.clock%3600+60)%3600}
 | .zero,s=>{s with clock:=s.clock - s.clock%60}
 | .ahour,s=>{s with ah:=(s.ah+1)%24}
 | .aminute,s=>{s with am:=(s.am+1)%60}
 | .alarm,s=>{s with aon:=!s.aon}
 | .run,s=>{s with lr:=!s.lr}
 | .lap,s=>if s.lr then (if 4<=s.lk.length then s else {s with lk:=s.lk++[s.lm]}) else {s with lm:=0,lk:=[]}
 | .cminute,s=>wI s ((s.cm+1)%60) s.cs
 | .csecond,s=>wI s s.cm ((s.cs+1)%60)
 | .full,s=>wI s s.cm s.cs
 | .count,s=>{s with cr:=!s.cr&&decide (0<s.cl)}
def Bk.row(b:Bk)(m i:Nat):vZ×Nat:=(b.modes.getD m default).rows.getD i (.none,0)
def press(b:Bk)(s:WS)(i:Nat):WS:={deed (b.row s.mode i).1 s with mode:=(b.row s.mode i).2}
noncomputable def mx(i j:Int):Int:=if j > i then j else i
def WS.sec(s:WS):Int:=3600*s.ah+60*s.am
def n8(s:WS):N7 Int:=if s.aon then some ((s.sec - s.clock - 1)%86400+1) else none
def sg(s:WS):N7 Int:=if s.cr then some s.cl else none
def va(s:WS)(n:Int):N7 Int:=
 match n8 s,sg s with
 | some a,some c=>if a<=n then (if c<=n then some (mx (n - (n - a)%86400) c) else some (n - (n - a)%86400)) else (if c<=n then some c else none)
 | some a,none=>if a<=n then some (n - (n - a)%86400) else none
 | none,some c=>if c<=n then some c else none
 | none,none=>none
def y1(s:WS)(n:Int):Int:=
 match va s n with
 | none=>mx 0 (s.ring - n)
 | some l=>mx 0 (10 - (n - l))
def AW(h:N7 (uS×N7 Int))(n:Int):N7 (uS×N7 Int):=
 match h with
 | some (x,some k)=>some (x,some (k+n))
 | h=>h
def vn(b:Bk)(s:WS):Int:=mx 1 (b.back - s.idle)
def vS(b:Bk)(s:WS)(n:Int):Int:=
 if s.held.isSome\/b.back=0 then s.idle else if n<vn b s then s.idle+n else (n - vn b s)%b.back
def uU(s:WS)(n:Int):Int:=if s.lr then s.lm+n else s.lm
def vq(s:WS)(n:Int):Int:=if s.cr then mx 0 (s.cl - n) else s.cl
def runsOn(s:WS)(n:Int):Bool:=s.cr&&decide (0<mx 0 (s.cl - n))
def counted(b:Bk)(s:WS)(n:Int):WS:=
 {s with clock:=(s.clock+n)%86400,lm:=uU s n,cl:=vq s n,cr:=runsOn s n,ring:=y1 s n,held:=AW s.held n,idle:=vS b s n}
def v4(b:Bk)(s:WS):Bool:=decide (0<b.back)&&(!decide (s.mode=0)&&!(b.modes.getD s.mode default).stays)
def rY(b:Bk)(s:WS):N7 Int:=
 match s.held with
 | none=>if v4 b s then some (vn b s) else none
 | some (_,none)=>none
 | some (_,some k)=>some (mx 1 (b.hold - k))
def turned(b:Bk)(s:WS):WS:=
 match s.held with
 | none=>{s with mode:=0}
 | some (x,_)=>press b {s with held:=some (x,none)} (x.ix+3)
def behind(b:Bk)(s:WS)(t:Int):WS:=turned b (counted b s t)
def ticked(b:Bk)(s:WS)(n:Int):WS:=
 match rY b s with
 | none=>counted b s n
 | some t=>if n<t then counted b s n else counted b (behind b s t) (n - t)
def pushed(s:WS)(x:uS):WS:=if s.held.isSome then s else {s with ring:=0,held:=some (x,if 0<s.ring then none else some 0),idle:=0}
def letGo(b:Bk)(s:WS)(x:uS):WS:=
 match s.held with
 | some (y,k)=>if y=x then { (if k.isSome then press b s x.ix else s) with held:=none,idle:=0} else s
 | none=>s
inductive Ev | down (x:uS) | up (x:uS) | ticks (n:Int)
 deriving DecidableEq
def Ev.d:Ev->D
 | .down x=>.tup [.str (oS "down"),.str x.x]
 | .up x=>.tup [.str (oS "up"),.str x.x]
 | .ticks n=>.tup [.str (oS "ticks"),.int n]
def gone(b:Bk)(s:WS):Ev->WS
 | .down x=>pushed s x
 | .up x=>letGo b s x
 | .ticks n=>ticked b s n
theorem M3(i j:Int):i<=mx i j:=by unfold mx;split<;>omega
def By(aon:Bool)(a:Int)(cr:Bool)(c r n:Int):Int:=
 if aon=true/\a<=n then (if cr=true/\c<=n then mx 0 (10 - (n - mx (n - (n - a)%86400) c)) else mx 0 (10 - (n - a)%86400)) else if cr=true/\c<=n then mx 0 (10 - (n - c)) else mx 0 (r - n)
theorem Ef(s:WS)(n:Int):y1 s n=By s.aon ((s.sec - s.clock - 1)%86400+1) s.cr s.cl s.ring n:=by
 unfold y1 va n8 sg By
 generalize (s.sec - s.clock - 1)%86400+1=a
 have e:∀x:Int,n - (n - x)=x:=fun x=>by omega
 cases s.aon<;>cases s.cr<;>by_cases h1:a<=n<;>by_cases h2:s.cl<=n<;>simp[h1,h2,e]
theorem D3{b:Bk}{s:WS}(h:s.idle<b.back):vn b s=b.back - s.idle:=by unfold vn mx;split<;>omega
theorem Ar(x b:Int):(x - b)%b=x%b:=Int.sub_emod_right x b
theorem Ed{b:Bk}{s:WS}{n:Int}(w:s.Wk b)(hn:0<=n):vS b s n=if s.held.isSome=true\/b.back=0 then s.idle else (s.idle+n)%b.back:=by
 unfold vS
 have h0:=w.idle0
 by_cases h:s.held.isSome=true\/b.back=0
 ·rw[Of h,Of h]
 ·have hb:0<b.back:=by
   have:¬ b.back=0:=fun z=>h (.inr z)
   have:=w.bk
   omega
  have h1:=w.idle1 hb
  rw[Ov h,Ov h,D3 h1]
  by_cases h2:n<b.back - s.idle
  ·rw[Of h2,Int.emod_eq_of_lt (by omega) (by omega)]
  ·rw[Ov h2,show n - (b.back - s.idle)=s.idle+n - b.back by omega,Ar]
theorem wV(a:Int){b:Int}(h:0<b):a%b<b:=OZ a h
theorem xV(a:Int){b:Int}(h:0<b):0<=a%b:=O1 a (by omega)
theorem Gs(aon:Bool)(a:Int)(cr:Bool)(c r n:Int)(hr:r<=10)(hn:0<=n)(hc:cr=true->0<c)(ha:1<=a):0<=By aon a cr c r n/\By aon a cr c r n<=10:=by
 unfold By
 split
 ·split
  ·unfold mx;split<;>(try split)<;>omega
  ·unfold mx;split<;>omega
 ·split
  ·unfold mx;split<;>omega
  ·unfold mx;split<;>omega
theorem WS.Wk.cnt{b:Bk}{s:WS}{n:Int}(w:s.Wk b)(hn:0<=n):(counted b s n).Wk b:=by
 have hr:=Gs s.aon ((s.sec - s.clock - 1)%86400+1) s.cr s.cl s.ring n w.ring1 hn w.cr (by omega)
 rw[<- Ef] at hr
 have hl0:=w.lm0
 have hi:=Ed w hn
 have hcl0:=w.cl0
 have hcl1:=w.cl1
 exact {
  bk:=w.bk,mode:=w.mode,clock0:=xV _ (by decide),clock1:=wV _ (by decide),ah0:=w.ah0,ah1:=w.ah1,am0:=w.am0,am1:=w.am1
  lm0:=by show 0<=uU s n;unfold uU;split<;>omega
  lk:=w.lk,cm0:=w.cm0,cm1:=w.cm1,cs0:=w.cs0,cs1:=w.cs1
  cl0:=by show 0<=vq s n;unfold vq mx;split<;>(try split)<;>omega
  cl1:=by show vq s n<3600;unfold vq mx;split<;>(try split)<;>omega
  cr:=by
   show runsOn s n=true->0<vq s n
   intro h
   unfold runsOn at h
   unfold vq
   cases hc:s.cr
   ·rw[hc] at h;cases h
   ·rw[hc] at h;simp at h;simp;exact h
  ring0:=hr.1,ring1:=hr.2
  idle0:=by
   show 0<=vS b s n
   rw[hi]
   split
   ·exact w.idle0
   ·rename_i h
    have:¬ b.back=0:=fun z=>h (.inr z)
    exact O1 _ this
  idle1:=fun hb=>by
   show vS b s n<b.back
   rw[hi]
   split
   ·exact w.idle1 hb
   ·exact wV _ hb
  idle2:=fun hb=>by
   show vS b s n=0
   rw[hi,Of (.inr hb)]
   exact w.idle2 hb}
theorem qZ{b:Bk}(ok:b.Ok){m i:Nat}(hm:m<b.modes.length)(hi:i<6):(b.row m i).2<b.modes.length:=by
 unfold Bk.row
 have e:b.modes.getD m default=b.modes[m]:=by simp[OU,hm]
 rw[e]
 have o:=ok.all _ (List.getElem_mem hm)
 have hi':i<b.modes[m].rows.length:=by rw[o.six];exact hi
 have e2:b.modes[m].rows.getD i (.none,0)=b.modes[m].rows[i]:=by simp[OU,hi']
 rw[e2]
 exact o.nx _ (List.getElem_mem hi')
theorem Eh(d:vZ)(s:WS):(deed d s).held=s.held:=by
 cases d<;>simp[deed,wI]<;>(repeat' split)<;>rfl
theorem WS.Wk.set{b:Bk}{s:WS}(w:s.Wk b){m c:Int}(m0:0<=m)(m1:m<60)(c0:0<=c)(c1:c<60):(wI s m c).Wk b:=by
 unfold wI
 split
 ·exact w
 ·exact {w with cm0:=m0,cm1:=m1,cs0:=c0,cs1:=c1,cl0:=(by show 0<=60*m+c;omega),cl1:=(by show 60*m+c<3600;omega),cr:=fun h=>by cases h}
theorem WS.Wk.dd{b:Bk}{s:WS}(w:s.Wk b)(d:vZ):(deed d s).Wk b:=by
 have c0:=w.clock0;have c1:=w.clock1
 cases d with
 | none=>exact w
 | hour=>exact {w with clock0:=xV _ (by decide),clock1:=wV _ (by decide)}
 | minute=>exact {w with clock0:=(by show 0<=s.clock - s.clock%3600+(s.clock%3600+60)%3600;omega),clock1:=(by show s.clock - s.clock%3600+(s.clock%3600+60)%3600<86400;omega)}
 | zero=>exact {w with clock0:=(by show 0<=s.clock - s.clock%60;omega),clock1:=(by show s.clock - s.clock%60<86400;omega)}
 | ahour=>exact {w with ah0:=xV _ (by decide),ah1:=wV _ (by decide)}
 | aminute=>exact {w with am0:=xV _ (by decide),am1:=wV _ (by decide)}
 | alarm=>exact {w with}
 | run=>exact {w with}
 | lap =>
  show(if s.lr then (if 4<=s.lk.length then s else {s with lk:=s.lk++[s.lm]}) else {s with lm:=0,lk:=[]}:WS).Wk b
  split
  ·split
   ·exact w
   ·exact {w with lk:=(by show(s.lk++[s.lm]).length<=4;simp;omega)}
  ·exact {w with lm0:=Int.le_refl 0,lk:=Pg _}
 | cminute=>exact w.set (xV _ (by decide)) (wV _ (by decide)) w.cs0 w.cs1
 | csecond=>exact w.set w.cm0 w.cm1 (xV _ (by decide)) (wV _ (by decide))
 | full=>exact w.set w.cm0 w.cm1 w.cs0 w.cs1
 | count =>
  have hc:(!s.cr&&decide (0<s.cl))=true->0<s.cl:=fun h=>by simp at h;exact h.2
  exact {w with cr:=hc}
theorem WS.Wk.prs{b:Bk}{s:WS}(ok:b.Ok)(w:s.Wk b){i:Nat}(hi:i<6):(press b s i).Wk b:=by
 have z:=w.dd (b.row s.mode i).1
 exact {z with mode:=qZ ok w.mode hi}
theorem y7(b:Bk)(s:WS)(i:Nat):(press b s i).held=s.held:=Eh _ _
theorem uS.ix3(x:uS):x.ix+3<6:=by cases x<;>decide
theorem uS.ix6(x:uS):x.ix<6:=by cases x<;>decide
theorem WS.Wk.trn{b:Bk}{s:WS}(ok:b.Ok)(w:s.Wk b):(turned b s).Wk b:=by
 unfold turned
 split
 ·exact {w with mode:=ok.some1}
 ·rename_i x k e
  exact WS.Wk.prs (s:={s with held:=some (x,none)}) ok {w with} x.ix3
theorem BC{b:Bk}{s:WS}:rY b (turned b s)=none:=by
 unfold turned
 split
 ·rename_i e
  unfold rY
  simp[e,v4]
 ·rename_i x k e
  unfold rY
  rw[y7]
theorem vd{b:Bk}{s:WS}{t:Int}(h:rY b s=some t):1<=t:=by
 unfold rY at h
 split at h
 ·split at h
  ·cases h;exact M3 _ _
  ·cases h
 ·cases h
 ·cases h;exact M3 _ _
theorem WS.Ok.cnt{b:Bk}{s:WS}{n:Int}(w:s.Ok b)(hn:0<=n)(h:∀t,rY b s=some t->n<t):(counted b s n).Ok b:=by
 refine {w.toWk.cnt hn with held:=fun x k e=>?_}
 have e':AW s.held n=some (x,some k):=e
 rcases hs:s.held with _ | ⟨y,_ | j⟩
 ·rw[hs] at e';cases e'
 ·rw[hs] at e';cases e'
 ·rw[hs] at e'
  simp[AW] at e'
  obtain⟨rfl,rfl⟩:=e'
  have hj:=w.held y j hs
  have ht:=h (mx 1 (b.hold - j)) (by unfold rY;rw[hs])
  unfold mx at ht
  split at ht<;>omega
theorem Ek{b:Bk}{s:WS}(ok:b.Ok)(w:s.Wk b):(turned b s).Ok b:=by
 refine {w.trn ok with held:=fun x k e=>?_}
 unfold turned at e
 split at e
 ·rename_i e2
  simp at e
  rw[e2] at e;cases e
 ·rw[y7] at e;cases e
theorem G1{b:Bk}{s:WS}{n:Int}(ok:b.Ok)(w:s.Ok b)(hn:0<=n):(ticked b s n).Ok b:=by
 unfold ticked
 split
 ·rename_i e
  exact w.cnt hn fun t ht=>by rw[e] at ht;cases ht
 ·rename_i t e
  have ht:=vd e
  split
  ·rename_i h
   exact w.cnt hn fun t' ht'=>by rw[e] at ht';cases ht';exact h
  ·rename_i h
   exact(Ek ok (w.toWk.cnt (by omega))).cnt (by omega) fun t' ht'=>by rw[BC] at ht';cases ht'
theorem GI{b:Bk}{s:WS}(ok:b.Ok)(w:s.Ok b)(x:uS):(pushed s x).Ok b:=by
 unfold pushed
 split
 ·exact w
 ·have hh:=ok.hold1
  refine {w with ring0:=Int.le_refl 0,ring1:=(by show(0:Int)<=10;decide),idle0:=Int.le_refl 0,idle1:=fun h=>h,idle2:=fun _=>rfl,held:=fun y k e=>?_}
  simp at e
  obtain⟨_,h2,h3⟩:=e
  subst h3
  omega
theorem IR{b:Bk}{s:WS}(ok:b.Ok)(w:s.Ok b)(x:uS):(letGo b s x).Ok b:=by
 unfold letGo
 split
 ·split
  ·have z:(if (by assumption:N7 Int).isSome then press b s x.ix else s).Wk b:=by
    split
    ·exact w.toWk.prs ok x.ix6
    ·exact w.toWk
   exact {z with idle0:=Int.le_refl 0,idle1:=fun h=>h,idle2:=fun _=>rfl,held:=fun y k e=>by cases e}
  ·exact w
 ·exact w
def Ev.Ok:Ev->Prop
 | .ticks n=>1<=n
 | _=>True
theorem yA{b:Bk}{s:WS}(ok:b.Ok)(w:s.Ok b)(e:Ev)(h:e.Ok):(gone b s e).Ok b:=by
 cases e with
 | down x=>exact GI ok w x
 | up x=>exact IR ok w x
 | ticks n=>exact G1 ok w (by have:1<=n:=h;omega)
def l0:WS:=⟨0,0,0,0,false,0,false,[],0,0,0,false,0,none,0⟩
theorem xD{b:Bk}(ok:b.Ok):l0.Ok b where
 bk:=ok.back0
 mode:=ok.some1
 clock0:=by decide
 clock1:=by decide
 ah0:=by decide
 ah1:=by decide
 am0:=by decide
 am1:=by decide
 lm0:=by decide
 lk:=by decide
 cm0:=by decide
 cm1:=by decide
 cs0:=by decide
 cs1:=by decide
 cl0:=by decide
 cl1:=by decide
 cr:=by decide
 ring0:=by decide
 ring1:=by decide
 idle0:=by decide
 idle1:=fun h=>h
 idle2:=fun _=>rfl
 held:=fun x k e=>by cases e
def rR(b:Bk)(s:WS)(es:List Ev):WS:=es.foldl (gone b) s
theorem BR{b:Bk}(ok:b.Ok):∀{es:List Ev} {s:WS},s.Ok b->(∀e∈es,e.Ok)->(rR b s es).Ok b
 | [],_,w,_=>w
 | e::es,s,w,h=>BR (es:=es) ok (yA ok w e (h e ON)) fun x hx=>h x (Oy _ hx)
theorem D0(b:Bk)(s:WS)(es fs:List Ev):rR b s (es++fs)=rR b (rR b s es) fs:=List.foldl_append
abbrev Pr:=uS×Bool
def Pr.x(p:Pr):Str:=if p.2 then p.1.X else p.1.x
def Pr.ix(p:Pr):Nat:=if p.2 then p.1.ix+3 else p.1.ix
def Pr.code(p:Pr):Nat:=(if p.2 then 65 else 97)+p.1.ix
section
open Builtin Builtin.Str
theorem Li{x:Str}{c a:Nat}:subAt x ⟨#[c]⟩ a=(x.cps[a]?==some c):=by
 have e:(⟨#[c]⟩:Str).length=1:=rfl
 unfold subAt
 rw[e]
 show(x.cps.extract a (a+1)==#[c])=_
 by_cases h:a<x.cps.size
 ·have:x.cps.extract a (a+1)=#[x.cps[a]]:=by
   apply Array.ext'
   simp[h,Ph]
  rw[this,Pq h,Bool.eq_iff_iff,Pl,Pl]
  constructor
  ·intro q
   have q':=congrArg Array.toList q
   simp at q'
   rw[q']
  ·intro q
   rw[Ow q]
 ·have:x.cps.extract a (a+1)=#[]:=by
   apply Array.ext'
   simp
   omega
  rw[this,Array.getElem?_eq_none (by omega)]
  rfl
end
end HW
set_option maxRecDepth 10000
namespace HW
open PySem
noncomputable section
def top(i:Nat):OE:=PySem.Challenge.pw_handwatch_k62_whole_asked_twice.main.body.getD i (.Pass ⟨0,0,0,0⟩)
def BX:xF:=DJ "_law_one_deed.<locals>.<lambda>" ["_law_thing"] [] (eA 0 (sV (sB 0 (sB 0 (top 84)))))
def BY:xF:=DJ "_law_one_deed.<locals>.<lambda>" ["_law_thing","_law_event_here"] [] (eA 0 (sV (sB 0 (sB 2 (top 84)))))
def B0:xF:=DJ "_law_one_deed.<locals>.<lambda>" ["_law_thing","_law_event_here"] [] (eA 0 (sV (sB 0 (sB 3 (top 84)))))
def B5:xF:=DJ "_law_one_deed.<locals>.<lambda>" ["_law_thing","_law_event_here"] [] (eA 0 (sV (sB 4 (top 84))))
def bL:D:=.int 0
def aV:D:=.int 1
def a_:D:=.int 2
def bS:D:=.int 3
def aQ:D:=.int 4
def ek:D:=.int 5
def bg:D:=.int 6
def cW:D:=.int 7
def eS:D:=.int 4
def eU:D:=.int 10
def eM:D:=.int 86400
def et:D:=.int 1000000000000000000
def cQ:List Str:=[oS "a",oS "b",oS "c",oS "A",oS "B",oS "C"]
theorem Dn{it:R->N7 LD}{st:D->R->N7 R}{body:R->N7 Out}{ρ:R}{ds:LD}{o:Out}(h1:it ρ=some ds)(h2:Au st body ds ρ=some o):Bb it st body ρ=some o:=by simp[h1,h2]
theorem l9{f g:R->N7 Out}{ρ ρ2:R}(h:f ρ=some (.nx ρ2)):m6 f g ρ=g ρ2:=by simp[h]
theorem yI{c:R->N7 Bool}{f g:R->N7 Out}{ρ:R}(h:c ρ=some true):xM c f g ρ=f ρ:=by simp[h]
theorem xR{c:R->N7 Bool}{f g:R->N7 Out}{ρ:R}(h:c ρ=some false):xM c f g ρ=g ρ:=by simp[h]
theorem uK{f g:R->N7 Out}{ρ:R}{d:D}(h:f ρ=some (.rt d)):m6 f g ρ=some (.rt d):=by simp[h]
theorem p4{f:R->OD}{st:D->R->N7 R}{ρ ρ':R}{d:D}(h:f ρ=some d)(h2:st d ρ=some ρ'):m8 f st ρ=some (.nx ρ'):=by simp[h,h2]
theorem i7{F:LD->OD}{g:R->N7 LD}{ρ:R}{ds:LD}{d:D}(h:g ρ=some ds)(h2:F ds=some d):h9 F g ρ=some d:=by simp[h,h2]
theorem p5{f:R->OD}{g:R->N7 LD}{ρ:R}{d:D}{ds:LD}(h:f ρ=some d)(h2:g ρ=some ds):e8 f g ρ=some (d::ds):=by simp[h,h2]
theorem k7{F:D->D->OD}{f g:R->OD}{ρ:R}{x y z:D}(h1:f ρ=some x)(h2:g ρ=some y)(h:F x y=some z):i6 F f g ρ=some z:=by simp only[i6,h1,h2,Oc,h]
theorem sA{F:D->D->N7 Bool}{f g:R->OD}{ρ:R}{x y:D}{b:Bool}(h1:f ρ=some x)(h2:g ρ=some y)(h:F x y=some b):l7 F f g ρ=some b:=by simp only[l7,h1,h2,Oc,h]
theorem tupS{g:R->N7 LD}{ρ:R}{ds:LD}(h:g ρ=some ds):rM g ρ=some (.tup ds):=by simp[h]
theorem Gk{c:R->N7 Bool}{ρ:R}{b:Bool}(h:c ρ=some b):Bm c ρ=some (.bl b):=by simp[h]
theorem B4{f:R->OD}{l h:R->N7 (N7 Int)}{ρ:R}{x d:D}{a b:N7 Int}(h1:f ρ=some x)(h2:l ρ=some a)(h3:h ρ=some b)(h4:Nb x a b=some d):K7 f l h ρ=some d:=by simp only[K7,h1,h2,h3,Oc,h4]
theorem Mh{c d:R->N7 Bool}{ρ:R}(h1:c ρ=some false)(h2:d ρ=some false):BW c d ρ=some false:=by simp[h1,h2]
theorem J3{f g:R->OD}{ρ:R}{d:D}(h1:f ρ=some (.bl true))(h2:g ρ=some d):AN f g ρ=some d:=by simp[h1,h2]
theorem Gj{c:R->N7 Bool}{ρ:R}{b:Bool}(h:c ρ=some b):Cw c ρ=some (!b):=by simp[h]
theorem BZ{f:R->OD}{ρ:R}{b:Bool}(h:f ρ=some (.bl b)):vK f ρ=some b:=by simp[h]
theorem DB{c:R->N7 Bool}{f g:R->OD}{ρ:R}{d:D}(h:c ρ=some true)(h2:f ρ=some d):Ba c f g ρ=some d:=by simp[h,h2]
theorem EC{c:R->N7 Bool}{f g:R->OD}{ρ:R}{d:D}(h:c ρ=some false)(h2:g ρ=some d):Ba c f g ρ=some d:=by simp[h,h2]
theorem L1{c d:R->N7 Bool}{ρ:R}(h1:c ρ=some true):BW c d ρ=some true:=by simp[h1]
theorem J1{c d:R->N7 Bool}{ρ:R}{b:Bool}(h1:c ρ=some false)(h2:d ρ=some b):BW c d ρ=some b:=by simp[h1,h2]
theorem Ms{g:R->N7 LD}{ρ:R}{ds:LD}(h:g ρ=some ds):GY g ρ=some (.lst ds):=by simp[h]
theorem B3{F:D->OD}{f:R->OD}{ρ:R}{x z:D}(h1:f ρ=some x)(h:F x=some z):vC F f ρ=some z:=by simp only[vC,h1,Oc,h]
theorem l5{k n:Nat}{g:R->N7 Out}{ds:LD}{d:D}(h:g (yo n ds)=some (.rt d))(hl:ds.length=k:=by rfl):via k n g ds=some d:=by unfold via;rw[Of hl,h];rfl
theorem DZ{f g:R->OD}{ρ:R}(h1:f ρ=some (.bl false)):AN f g ρ=some (.bl false):=by simp[h1]
theorem retS{f:R->OD}{ρ:R}{d:D}(h:f ρ=some d):l6 f ρ=some (.rt d):=by simp[h]
theorem modS{i j:Int}(h:0<j):r_ (.int i) (.int j)=some (.int (i%j)):=by simp[h]
theorem Bv{i j:Int}(h:sv i j=true):v3 (.int i) (.int j)=some (.int (i*j)):=by
 show(if sv i j=true then _ else none)=_
 rw[Of h]
theorem Np{i j q:Int}(h:0<j)(e:i%j=q):r_ (.int i) (.int j)=some (.int q):=by rw[<- e];exact modS h
theorem Nv{i:Int}(h:i=0):some (i==0)=some true:=by rw[h];rfl
theorem NQ{i:Int}(h:¬ i=0):some (i==0)=some false:=by rw[OP.mpr h]
theorem dT{p:Prop}[Decidable p](h:p):some (decide p)=some true:=by rw[Pa h]
theorem dF{p:Prop}[Decidable p](h:¬ p):some (decide p)=some false:=by rw[OO h]
mutual
theorem BH:∀d:D,sk d=true->HN d d=true
 | .non,_=>rfl
 | .bl b,_=>beq_self_eq_true b
 | .int i,_=>beq_self_eq_true i
 | .str x,_=>beq_self_eq_true x
 | .tup xs,h=>wq xs h
 | .lst xs,h=>wq xs h
 | .fro xs,h=>wq xs h
 | .obj ..,h=>by cases h
 | .rf ..,h=>by cases h
theorem wq:∀ds:LD,n6 ds=true->zH ds ds=true
 | [],_=>rfl
 | d::ds,h=>by
  have h':(sk d&&n6 ds)=true:=h
  rw[Oe] at h'
  show(HN d d&&zH ds ds)=true
  rw[BH d h'.1,wq ds h'.2];rfl
end
theorem zU{d:D}(h:uB d<=100)(h2:rG d=true):xZ d d=some true:=by unfold xZ;rw[Of ⟨h,h2,h2⟩,BH _ (bE h2)]
theorem zL{d:D}(h:uB d<=100)(h2:rG d=true):vL d d=some false:=by unfold vL;rw[zU h h2];rfl
theorem CI(l:List Int):uP (l.map D.int)=0:=by induction l with | nil=>rfl | cons a l ih=>simp[uP,uB,ih]
theorem Ca(l:List Int):tw (l.map D.int)=true:=by induction l with | nil=>rfl | cons a l ih=>simp[tw,rG,ih]
theorem h_(x:uS):rG (.str x.x)=true:=by rw[rG];cases x<;>decide +kernel
theorem nZ(h:N7 (uS×N7 Int)):uB (um h)<=1:=by rcases h with _ | ⟨x,_ | k⟩<;>simp[um,sF,uB,uP]
theorem ph(h:N7 (uS×N7 Int)):rG (um h)=true:=by
 rcases h with _ | ⟨x,_ | k⟩
 ·rfl
 ·simp[um,sF,rG,tw];have:=h_ x;simp[rG] at this;exact this
 ·simp[um,sF,rG,tw];have:=h_ x;simp[rG] at this;exact this
theorem lX(s:WS):rG s.d=true:=by
 have h:=ph s.held
 simp[WS.d,WS.alarmD,WS.lapsD,WS.countD,rG,tw,Ca,h]
theorem NH:8<=sizeLine:=by decide
theorem w0(s:WS):k8 s.d (.int 0)=some (.int (s.mode:Int)):=rfl
theorem w1(s:WS):k8 s.d (.int 1)=some (.int s.clock):=rfl
theorem w2(s:WS):k8 s.d (.int 2)=some s.alarmD:=rfl
theorem w3(s:WS):k8 s.d (.int 3)=some s.lapsD:=rfl
theorem w4(s:WS):k8 s.d (.int 4)=some s.countD:=rfl
theorem w5(s:WS):k8 s.d (.int 5)=some (.int s.ring):=rfl
theorem w6(s:WS):k8 s.d (.int 6)=some (um s.held):=rfl
theorem w7(s:WS):k8 s.d (.int 7)=some (.int s.idle):=rfl
theorem Lg(s:WS):k8 s.alarmD (.int 0)=some (.int s.ah):=rfl
theorem KG(s:WS):k8 s.alarmD (.int 1)=some (.int s.am):=rfl
theorem Le(s:WS):k8 s.alarmD (.int 2)=some (.bl s.aon):=rfl
theorem KA(s:WS):k8 s.lapsD (.int 0)=some (.int s.lm):=rfl
theorem LW(s:WS):k8 s.lapsD (.int 1)=some (.bl s.lr):=rfl
theorem K_(s:WS):k8 s.lapsD (.int 2)=some (.tup (s.lk.map .int)):=rfl
theorem Kn(s:WS):k8 s.countD (.int 0)=some (.int s.cm):=rfl
theorem Ke(s:WS):k8 s.countD (.int 1)=some (.int s.cs):=rfl
theorem LF(s:WS):k8 s.countD (.int 2)=some (.int s.cl):=rfl
theorem MH(s:WS):k8 s.countD (.int 3)=some (.bl s.cr):=rfl
theorem b0(b:Bk):k8 b.d (.int 0)=some (.int b.hold):=rfl
theorem b1(b:Bk):k8 b.d (.int 1)=some (.int b.back):=rfl
theorem b2(b:Bk):k8 b.d (.int 2)=some (.tup (b.modes.map Md.d)):=rfl
theorem m0(m:Md):k8 m.d (.int 0)=some (.str m.face.x):=rfl
theorem m1(m:Md):k8 m.d (.int 1)=some (.bl m.stays):=rfl
theorem m2(m:Md):k8 m.d (.int 2)=some (.tup (m.rows.map yW)):=rfl
theorem r0(r:vZ×Nat):k8 (yW r) (.int 0)=some (.str r.1.x):=rfl
theorem r1(r:vZ×Nat):k8 (yW r) (.int 1)=some (.int (r.2:Int)):=rfl
theorem h0(x:uS)(k:N7 Int):k8 (um (some (x,k))) (.int 0)=some (.str x.x):=rfl
theorem h1(x:uS)(k:N7 Int):k8 (um (some (x,k))) (.int 1)=some (sF k):=rfl
theorem As{xs:LD}{i:Nat}(h:i<xs.length):Fk xs (i:Int)=some xs[i]:=by
 unfold Fk KN
 rw[Of (by omega),Of (by omega)]
 simp[h]
theorem ky(b:Bk){m:Nat}(h:m<b.modes.length):k8 (.tup (b.modes.map Md.d)) (.int (m:Int))=some (b.modes.getD m default).d:=by
 show Fk _ _=_
 rw[As (by simpa using h)]
 simp[OU,h]
theorem qL(m:Md){i:Nat}(h:i<m.rows.length):k8 (.tup (m.rows.map yW)) (.int (i:Int))=some (yW (m.rows.getD i (.none,0))):=by
 show Fk _ _=_
 rw[As (by simpa using h)]
 simp[OU,h]
theorem oK(b:Bk){m:Nat}(h:m<b.modes.length):b.modes.getD m default∈b.modes:=by
 have e:b.modes.getD m default=b.modes[m]:=by simp[OU,h]
 rw[e];exact List.getElem_mem h
theorem KB{i j:Int}(h1 : -(2 ^ 64)<i)(h2:i<2 ^ 64):v3 (.int i) (.int j)=some (.int (i*j)):=by simp[t6 h1 h2]
theorem Hg(j:Int):v3 (.int 3600) (.int j)=some (.int (3600*j)):=KB (by decide) (by decide)
theorem HP(j:Int):v3 (.int 60) (.int j)=some (.int (60*j)):=KB (by decide) (by decide)
theorem G6(k:N7 Int):vF (sF k) .non=some k.isSome:=by cases k<;>rfl
theorem Lf(i j:Int):CL [.int i,.int j]=some (.int (mx i j)):=rfl
def whole:D->Bool
 | .int _=>true
 | _=>false
def within(d:D)(l m:Int):Bool:=match d with
 | .int i=>decide (l<=i)&&decide (i<=m)
 | _=>false
def oneOf(d:D)(ws:LD):Bool:=match d with
 | .str x=>ws.any fun y=>LL y (.str x)
 | _=>false
def M2(d:D)(m:Int):Bool:=match d with
 | .tup xs=>(xs.length:Int)==m
 | _=>false
noncomputable def xy:LD:=[.str (oS "none"),.str (oS "hour"),.str (oS "minute"),.str (oS "zero"),.str (oS "ahour"),.str (oS "aminute"),.str (oS "alarm"),.str (oS "run"),.str (oS "lap"),.str (oS "cminute"),.str (oS "csecond"),.str (oS "full"),.str (oS "count")]
def ze:LD:=[.str (oS "time"),.str (oS "alarm"),.str (oS "laps"),.str (oS "count")]
def xI(d:D)(m:Int):Bool:=match d with
 | .tup [a,b]=>oneOf a xy&&within b 0 (m - 1)
 | _=>false
def Cr(d:D)(m:Int):Bool:=match d with
 | .tup xs=>xs.length==6&&xs.all fun x=>xI x m
 | _=>false
def wW(d:D)(m:Int):Bool:=match d with
 | .tup [a,b,c]=>oneOf a ze&&(M8 b "bool" && Cr c m)
 | _=>false
def AU(d:D):Bool:=match d with
 | .tup xs=>decide (1<=xs.length)&&(decide (xs.length<=8)&&xs.all fun x=>wW x xs.length)
 | _=>false
def AG(d:D):Bool:=match d with
 | .tup [a,b,c]=>within a 1 9&&(within b 0 60&&AU c)
 | _=>false
theorem within_int{d:D}{l h:Int}(e:within d l h=true):∃i:Int,d=.int i/\l<=i/\i<=h:=by
 cases d with
 | int i=>simp[within] at e;exact⟨i,rfl,e⟩
 | _=>cases e
theorem FD{d:D}(e:M8 d "bool" = true):∃b,d=.bl b:=by
 cases d with
 | bl b=>exact⟨b,rfl⟩
 | _=>simp at e
theorem z7{d:D}{ws:LD}(e:oneOf d ws=true):∃x,d=.str x/\(ws.any fun y=>LL y (.str x))=true:=by
 cases d with
 | str x=>exact⟨x,rfl,e⟩
 | _=>cases e
theorem GN{d:D}(e:oneOf d xy=true):∃k:vZ,d=.str k.x:=by
 obtain⟨x,rfl,h⟩:=z7 e
 obtain⟨y,hy,h⟩:=List.any_eq_true.mp h
 have q:∀w:Str,LL (.str w) (.str x)=true->w=x:=fun w z=>Pl.mp z
 simp only[xy,Oj,List.not_mem_nil,or_false] at hy
 rcases hy with rfl | rfl | rfl | rfl | rfl | rfl | rfl | rfl | rfl | rfl | rfl | rfl | rfl
 ·exact⟨.none,congrArg D.str (q _ h).symm⟩
 ·exact⟨.hour,congrArg D.str (q _ h).symm⟩
 ·exact⟨.minute,congrArg D.str (q _ h).symm⟩
 ·exact⟨.zero,congrArg D.str (q _ h).symm⟩
 ·exact⟨.ahour,congrArg D.str (q _ h).symm⟩
 ·exact⟨.aminute,congrArg D.str (q _ h).symm⟩
 ·exact⟨.alarm,congrArg D.str (q _ h).symm⟩
 ·exact⟨.run,congrArg D.str (q _ h).symm⟩
 ·exact⟨.lap,congrArg D.str (q _ h).symm⟩
 ·exact⟨.cminute,congrArg D.str (q _ h).symm⟩
 ·exact⟨.csecond,congrArg D.str (q _ h).symm⟩
 ·exact⟨.full,congrArg D.str (q _ h).symm⟩
 ·exact⟨.count,congrArg D.str (q _ h).symm⟩
theorem Gp{d:D}(e:oneOf d ze=true):∃k:Face,d=.str k.x:=by
 obtain⟨x,rfl,h⟩:=z7 e
 obtain⟨y,hy,h⟩:=List.any_eq_true.mp h
 have q:∀w:Str,LL (.str w) (.str x)=true->w=x:=fun w z=>Pl.mp z
 simp only[ze,Oj,List.not_mem_nil,or_false] at hy
 rcases hy with rfl | rfl | rfl | rfl
 ·exact⟨.time,congrArg D.str (q _ h).symm⟩
 ·exact⟨.alarm,congrArg D.str (q _ h).symm⟩
 ·exact⟨.laps,congrArg D.str (q _ h).symm⟩
 ·exact⟨.count,congrArg D.str (q _ h).symm⟩
theorem rg{d:D}{n:Nat}(e:xI d n=true):∃r:vZ×Nat,d=yW r/\r.2<n:=by
 unfold xI at e
 split at e
 ·rw[Oe] at e
  obtain⟨k,rfl⟩:=GN e.1
  obtain⟨i,rfl,h0,h1⟩:=within_int e.2
  refine⟨(k,i.toNat),?_,?_⟩
  ·simp[yW,Int.toNat_of_nonneg h0]
  ·simp;omega
 ·cases e
theorem Ao{α:Type}{f:α->D}{P:α->Prop}{q:D->Bool}(h:∀d,q d=true->∃a,d=f a/\P a):∀{ds:LD},ds.all q=true->∃as:List α,ds=as.map f/\∀a∈as,P a
 | [],_=>⟨[],rfl,fun _ h=>by cases h⟩
 | d::ds,e=>by
  rw[O2,Oe] at e
  obtain⟨a,rfl,ha⟩:=h d e.1
  obtain⟨as,rfl,hs⟩:=Ao h e.2
  exact⟨a::as,rfl,fun x hx=>by rcases Oj.mp hx with rfl | hx;exact ha;exact hs x hx⟩
theorem qg{d:D}{n:Nat}(e:wW d n=true):∃m:Md,d=m.d/\m.Ok n:=by
 unfold wW at e
 split at e
 ·rename_i a b c
  rw[Oe,Oe] at e
  obtain⟨f,rfl⟩:=Gp e.1
  obtain⟨s,rfl⟩:=FD e.2.1
  have e2:=e.2.2
  cases c with
  | tup xs =>
   unfold Cr at e2
   simp only[Oe] at e2
   obtain⟨rs,rfl,hr⟩:=Ao (f:=yW) (P:=fun r=>r.2<n) (fun d h=>rg h) e2.2
   refine⟨⟨f,s,rs⟩,rfl,?_,hr⟩
   have:=e2.1
   simpa using this
  | _=>cases e2
 ·cases e
theorem qe{d:D}(e:AG d=true):∃b:Bk,d=b.d/\b.Ok:=by
 unfold AG at e
 split at e
 ·rename_i a b c
  rw[Oe,Oe] at e
  obtain⟨i,rfl,i0,i1⟩:=within_int e.1
  obtain⟨j,rfl,j0,j1⟩:=within_int e.2.1
  have e2:=e.2.2
  cases c with
  | tup xs =>
   unfold AU at e2
   simp only[Oe] at e2
   obtain⟨h1,h2,h3⟩:=e2
   obtain⟨ms,hm,hok⟩:=Ao (f:=Md.d) (P:=fun m=>m.Ok xs.length) (fun d h=>qg h) h3
   have hl:xs.length=ms.length:=by rw[hm];simp
   refine⟨⟨i,j,ms⟩,by rw[hm];rfl,i0,i1,j0,j1,?_,?_,?_⟩
   ·have:=O_ h1;show 1<=ms.length;omega
   ·have:=O_ h2;show ms.length<=8;omega
   ·rw[hl] at hok;exact hok
  | _=>cases e2
 ·cases e
def iv:R->N7 Out:=
  (m6 (xM (l7 K2 (g4 1) (h9 wB (e8 (g4 0) g5)))
  (l6 (i6 k8 (g4 0) (g4 1)))
  sC)
  (l6 (kI 0)))
def bF:LD->OD:=via 2 2 iv
theorem Ej(ns:List Int)(k:Int)(h0:0<=k):∃c,bF [.fro (ns.map .int),.int k]=some (.int c):=by
 obtain⟨n,rfl⟩:=Int.eq_ofNat_of_zero_le h0
 by_cases h1:(n:Int)<((ns.map D.int).length:Int)
 ·have h2:n<(ns.map D.int).length:=Int.ofNat_lt.mp h1
  have h3:n<ns.length:=by rw[OK] at h2;exact h2
  refine⟨ns[n],l5 (uK ((yI (sA rfl (i7 (F:=wB) rfl rfl) (dT h1))).trans (retS (k7 rfl rfl ?_))))⟩
  exact(As h2).trans (by rw[List.getElem_map])
 ·exact⟨0,l5 ((l9 (xR (sA rfl (i7 (F:=wB) rfl rfl) (dF h1)))).trans (retS rfl))⟩
def jY:R->N7 Out:=
  (m6 (m8 (i6 r_ (i6 v3 (i6 rL (i6 rL (h9 bF (e8 (g4 0) (e8 (g4 1) g5))) (i6 v3 (kI 7919) (g4 1))) (kI 1)) (kI 48271)) (kI 2147483647)) (setAt 2))
  (l6 (i6 r_ (i6 rL (i6 rL (i6 v3 (g4 2) (g4 2)) (i6 v3 (kI 7) (g4 2))) (g4 1)) (kI 2147483629))))
def aR:LD->OD:=via 2 3 jY
theorem wY(ns:List Int)(k:Int)(h0:0<=k):∃m,aR [.fro (ns.map .int),.int k]=some (.int m)/\0<=m:=by
 obtain⟨c,hc⟩:=Ej ns k h0
 generalize hq:(c+7919*k+1)*48271%2147483647=q
 have q0:0<=q:=by rw[<- hq];exact O1 _ (by decide)
 have q1:q<2147483647:=by rw[<- hq];exact OZ _ (by decide)
 have m1:sv 7919 k=true:=t6 (by decide) (by decide)
 have m2:sv (c+7919*k+1) 48271=true:=zV (by decide) (by decide)
 have m3:sv q q=true:=t6 (by omega) (by omega)
 have m4:sv 7 q=true:=t6 (by decide) (by decide)
 refine⟨(q*q+7*q+k)%2147483629,?_,O1 _ (by decide)⟩
 exact l5 ((l9 (p4 (k7 (k7 (k7 (k7 (i7 rfl hc) (k7 rfl rfl (Bv m1)) rfl) rfl rfl) rfl (Bv m2)) rfl (Np (by decide) hq)) rfl)).trans (retS (k7 (k7 (k7 (k7 rfl rfl (Bv m3)) (k7 rfl rfl (Bv m4)) rfl) rfl rfl) rfl (modS (by decide)))))
def kf:R->N7 Out:=
  (m6 (m8 (i6 r_ (i6 v3 (i6 rL (i6 rL (g4 0) (i6 v3 (kI 104729) (g4 1))) (kI 17)) (kI 69621)) (kI 2147483647)) (setAt 2))
  (l6 (i6 r_ (i6 rL (i6 rL (i6 v3 (g4 2) (g4 2)) (i6 v3 (kI 3) (g4 2))) (g4 1)) (kI 2147483629))))
def bo:LD->OD:=via 2 3 kf
def xS(n k:Int):Int:=((n+104729*k+17)*69621%2147483647*((n+104729*k+17)*69621%2147483647)+3*((n+104729*k+17)*69621%2147483647)+k)%2147483629
theorem y4(n k:Int):bo [.int n,.int k]=some (.int (xS n k)):=by
 unfold xS
 generalize hq:(n+104729*k+17)*69621%2147483647=q
 have q0:0<=q:=by rw[<- hq];exact O1 _ (by decide)
 have q1:q<2147483647:=by rw[<- hq];exact OZ _ (by decide)
 have m1:sv 104729 k=true:=t6 (by decide) (by decide)
 have m2:sv (n+104729*k+17) 69621=true:=zV (by decide) (by decide)
 have m3:sv q q=true:=t6 (by omega) (by omega)
 have m4:sv 3 q=true:=t6 (by decide) (by decide)
 exact l5 ((l9 (p4 (k7 (k7 (k7 (k7 rfl (k7 rfl rfl (Bv m1)) rfl) rfl rfl) rfl (Bv m2)) rfl (Np (by decide) hq)) rfl)).trans (retS (k7 (k7 (k7 (k7 rfl rfl (Bv m3)) (k7 rfl rfl (Bv m4)) rfl) rfl rfl) rfl (modS (by decide)))))
def kK:R->N7 Out:=
  (m6 (m8 (i6 rL (kI 1) (i6 r_ (g4 0) (kI 8))) (setAt 1))
  (m6 (m8 (rM (e8 (kS "none") (e8 (kS "hour") (e8 (kS "minute") (e8 (kS "zero") (e8 (kS "ahour") (e8 (kS "aminute") (e8 (kS "alarm") (e8 (kS "run") (e8 (kS "lap") (e8 (kS "cminute") (e8 (kS "csecond") (e8 (kS "full") g5))))))))))))) (setAt 2))
  (m6 (m8 (rM g5) (setAt 3))
  (m6 (Bb (vP (g4 1)) (setAt 4)
  (m6 (m8 (i6 uq (h9 bo (e8 (g4 0) (e8 (g4 4) g5))) (kI 4)) (setAt 5))
  (m6 (m8 (rM g5) (setAt 6))
  (m6 (Bb (vP (kI 6)) (setAt 7)
  (m6 (m8 (i6 uq (h9 bo (e8 (g4 5) (e8 (i6 rL (kI 10) (g4 7)) g5))) (kI 4)) (setAt 8))
  (m8 (i6 rL (g4 6) (rM (e8 (rM (e8 (i6 k8 (i6 rL (g4 2) (rM (e8 (kS "count") g5))) (i6 r_ (g4 8) (kI 13))) (e8 (i6 r_ (i6 uq (g4 8) (kI 16)) (g4 1)) g5))) g5))) (setAt 6))))
  (m6 (m8 (i6 k8 (rM (e8 (kS "time") (e8 (kS "alarm") (e8 (kS "laps") (e8 (kS "count") g5))))) (i6 r_ (g4 5) (kI 4))) (setAt 9))
  (m8 (i6 rL (g4 3) (rM (e8 (rM (e8 (g4 9) (e8 (Bm (l7 xK (i6 r_ (i6 uq (g4 5) (kI 4)) (kI 2)) (kI 0))) (e8 (g4 6) g5)))) g5))) (setAt 3)))))))
  (l6 (rM (e8 (i6 rL (kI 1) (i6 r_ (i6 uq (g4 0) (kI 8)) (i6 k8 (rM (e8 (kI 3) (e8 (kI 9) g5))) (i6 r_ (i6 uq (g4 0) (kI 128)) (kI 2))))) (e8 (i6 k8 (rM (e8 (kI 0) (e8 (kI 7) (e8 (kI 60) (e8 (kI 1) (e8 (kI 20) g5)))))) (i6 r_ (i6 uq (g4 0) (kI 256)) (kI 5))) (e8 (g4 3) g5)))))))))
def cD:LD->OD:=via 1 10 kK
def sw:LD:=[.str (oS "none"),.str (oS "hour"),.str (oS "minute"),.str (oS "zero"),.str (oS "ahour"),.str (oS "aminute"),.str (oS "alarm"),.str (oS "run"),.str (oS "lap"),.str (oS "cminute"),.str (oS "csecond"),.str (oS "full")]
theorem Be:∀x∈xy,oneOf x xy=true/\Fits x:=by
 intro x hx
 simp only[xy,Oj,List.not_mem_nil,or_false] at hx
 rcases hx with h | h | h | h | h | h | h | h | h | h | h | h | h<;>subst h<;>exact⟨by decide,.str _⟩
theorem Br:∀x∈ze,oneOf x ze=true/\Fits x:=by
 intro x hx
 simp only[ze,Oj,List.not_mem_nil,or_false] at hx
 rcases hx with h | h | h | h<;>subst h<;>exact⟨by decide,.str _⟩
def yt:R->N7 Out:=(m6 (m8 (i6 uq (h9 bo (e8 (g4 5) (e8 (i6 rL (kI 10) (g4 7)) g5))) (kI 4)) (setAt 8))
 (m8 (i6 rL (g4 6) (rM (e8 (rM (e8 (i6 k8 (i6 rL (g4 2) (rM (e8 (kS "count") g5))) (i6 r_ (g4 8) (kI 13))) (e8 (i6 r_ (i6 uq (g4 8) (kI 16)) (g4 1)) g5))) g5))) (setAt 6)))
theorem sz{n:Nat}(h:n<=1000):n<=sizeLine:=OH h (by decide)
theorem oA{N m:Int}{ms rs:LD}{a b f:OD}{q j:Int}(hm:0<m)(hr:rs.length<=100)(hk:∀x∈rs,xI x m=true/\Fits x) :
  ∃o r,yt [some (.int N),some (.int m),some (.tup sw),some (.tup ms),a,some (.int q),some (.tup rs),some (.int j),b,f]=some (.nx [some (.int N),some (.int m),some (.tup sw),some (.tup ms),a,some (.int q),some (.tup (rs++[r])),some (.int j),o,f])/\xI r m=true/\Fits r:=by
 generalize hz:xS q (10+j) / 4=z
 obtain⟨x,hx,hat⟩:=xu (xs:=xy) (i:=z%13) (O1 _ (by decide)) (OZ _ (by decide))
 have w0:0<=z / 16%m:=O1 _ (by omega)
 have w1:z / 16%m<m:=OZ _ hm
 have hl:rs.length+1<=sizeLine:=sz (by omega)
 have hd:sw++[.str (oS "count")]=xy:=rfl
 have hs:sw.length+1<=sizeLine:=by decide
 refine⟨some (.int z),.tup [x,.int (z / 16%m)],?_,?_,?_⟩
 ·have ha:rL (.tup sw) (.tup [.str (oS "count")])=some (.tup xy):=by
   show(if sw.length+1<=sizeLine then some (D.tup (sw++[.str (oS "count")])) else none)=_
   rw[Of hs,hd]
  have hb:rL (.tup rs) (.tup [.tup [x,.int (z / 16%m)]])=some (.tup (rs++[.tup [x,.int (z / 16%m)]])):=by
   show(if rs.length+1<=sizeLine then _ else none)=_
   rw[Of hl]
  have hv:uq (.int (xS q (10+j))) (.int 4)=some (.int z):=by rw[<- hz];rfl
  exact(l9 (p4 (k7 (i7 (p5 rfl (p5 (k7 rfl rfl rfl) rfl)) (y4 _ _)) rfl hv) rfl)).trans (p4 (k7 rfl (tupS (p5 (tupS (p5 (k7 (k7 rfl rfl ha) (k7 rfl rfl (modS (by decide))) hat) (p5 (k7 (k7 rfl rfl rfl) rfl (modS hm)) rfl))) rfl)) hb) rfl)
 ·simp[xI,(Be x hx).1,within,w0]
  omega
 ·exact .tup (by simp) (by
   intro y hy
   simp at hy
   rcases hy with h | h<;>subst h
   ·exact(Be _ hx).2
   ·exact .int _)
def Bg:R->N7 Out:=(m6 (m8 (i6 uq (h9 bo (e8 (g4 0) (e8 (g4 4) g5))) (kI 4)) (setAt 5))
  (m6 (m8 (rM g5) (setAt 6))
  (m6 (Bb (vP (kI 6)) (setAt 7) yt)
  (m6 (m8 (i6 k8 (rM (e8 (kS "time") (e8 (kS "alarm") (e8 (kS "laps") (e8 (kS "count") g5))))) (i6 r_ (g4 5) (kI 4))) (setAt 9))
  (m8 (i6 rL (g4 3) (rM (e8 (rM (e8 (g4 9) (e8 (Bm (l7 xK (i6 r_ (i6 uq (g4 5) (kI 4)) (kI 2)) (kI 0))) (e8 (g4 6) g5)))) g5))) (setAt 3))))))
def Lh(N m q:Int)(ms:LD)(a f:OD)(i:Nat)(ρ:R):Prop:=∃rs o j,ρ=[some (.int N),some (.int m),some (.tup sw),some (.tup ms),a,some (.int q),some (.tup rs),j,o,f]/\rs.length=i/\∀x∈rs,xI x m=true/\Fits x
theorem nj{N m q:Int}{ms:LD}{a b c f:OD}(hm:0<m) :
  ∃rs o j,Au (setAt 7) yt (uZ 0 6) [some (.int N),some (.int m),some (.tup sw),some (.tup ms),a,some (.int q),some (.tup []),b,c,f]=some (.nx [some (.int N),some (.int m),some (.tup sw),some (.tup ms),a,some (.int q),some (.tup rs),j,o,f])/\rs.length=6/\∀x∈rs,xI x m=true/\Fits x:=by
 obtain⟨ρ',h1,rs,o,j,h2,h3,h4⟩:=zl (st:=setAt 7) (body:=yt) (Lh N m q ms a f) (uZ 0 6) 0 [some (.int N),some (.int m),some (.tup sw),some (.tup ms),a,some (.int q),some (.tup []),b,c,f]
  ⟨[],c,b,rfl,rfl,fun x hx=>nomatch hx⟩ (fun i d ρ e p=>by
   obtain⟨rs,o,j,rfl,hl,hk⟩:=p
   obtain⟨rfl,hi⟩:=mD e
   obtain⟨o',r,h1,h2,h3⟩:=oA (N:=N) (ms:=ms) (a:=a) (b:=o) (f:=f) (q:=q) (j:=(i:Int)) hm (rs:=rs) (by omega) hk
   refine⟨_,_,rfl,h1,rs++[r],o',_,rfl,by simp[hl],fun x hx=>?_⟩
   rcases Pi.mp hx with hx | hx
   ·exact hk x hx
   ·cases Od.mp hx
    exact⟨h2,h3⟩)
 subst h2
 refine⟨rs,o,j,h1,?_,h4⟩
 rw[h3,jU]
 rfl
theorem nh{N m:Int}{ms:LD}{k:Int}{a b c d e:OD}(hm:0<m)(hms:ms.length<=100) :
  ∃r o1 o2 o3 o4 o5,Bg [some (.int N),some (.int m),some (.tup sw),some (.tup ms),some (.int k),a,b,c,d,e]=some (.nx [some (.int N),some (.int m),some (.tup sw),some (.tup (ms++[r])),some (.int k),o1,o2,o3,o4,o5])/\wW r m=true/\Fits r:=by
 generalize hq:xS N k / 4=q
 obtain⟨rs,o,j,h1,h2,h3⟩:=nj (N:=N) (m:=m) (q:=q) (ms:=ms) (a:=some (.int k)) (b:=c) (c:=d) (f:=e) hm
 obtain⟨x,hx,hat⟩:=xu (xs:=ze) (i:=q%4) (O1 _ (by decide)) (OZ _ (by decide))
 have hl:ms.length+1<=sizeLine:=sz (by omega)
 refine⟨.tup [x,.bl (q / 4%2==0),.tup rs],some (.int q),some (.tup rs),j,o,some x,?_,?_,?_⟩
 rotate_left 1
 ·have ha:(rs.all fun y=>xI y m)=true:=Oz.mpr fun y hy=>(h3 y hy).1
  simp[wW,(Br x hx).1,Cr,h2,ha]
 ·refine .tup (by simp) fun y hy=>?_
  simp at hy
  rcases hy with h | h | h<;>subst h
  ·exact(Br _ hx).2
  ·exact .bl _
  ·exact .tup (by omega) fun y hy=>(h3 y hy).2
 ·have hat':Fk [.str (oS "time"),.str (oS "alarm"),.str (oS "laps"),.str (oS "count")] (q%4)=some x:=hat
  have hb:rL (.tup ms) (.tup [.tup [x,.bl (q / 4%2==0),.tup rs]])=some (.tup (ms++[.tup [x,.bl (q / 4%2==0),.tup rs]])):=by
   show(if ms.length+1<=sizeLine then _ else none)=_
   rw[Of hl]
  have hv:uq (.int (xS N k)) (.int 4)=some (.int q):=by rw[<- hq];rfl
  exact(l9 (p4 (k7 (i7 (p5 rfl rfl) (y4 _ _)) rfl hv) rfl)).trans ((l9 (p4 (tupS rfl) rfl)).trans ((l9 (Dn (ds:=uZ 0 6) rfl h1)).trans ((l9 (p4 (k7 rfl (k7 rfl rfl (modS (by decide))) hat') rfl)).trans
   (p4 (k7 rfl (tupS (p5 (tupS (p5 rfl (p5 (Gk (sA (k7 (k7 rfl rfl rfl) rfl (modS (by decide))) rfl rfl)) rfl))) rfl)) hb) rfl))))
def Kf(N m:Int)(i:Nat)(ρ:R):Prop:=∃ms a b c d e f,ρ=[some (.int N),some (.int m),some (.tup sw),some (.tup ms),a,b,c,d,e,f]/\ms.length=i/\∀x∈ms,wW x m=true/\Fits x
theorem ni(N:Int):∃b,cD [.int N]=some b/\AG b=true/\Fits b:=by
 generalize hM:1+N%8=m
 have hm0:0<m:=by have:=O1 N (show(8:Int)≠0 by decide);omega
 have hm8:m<=8:=by have:=OZ N (show(0:Int)<8 by decide);omega
 obtain⟨ρ',h1,ms,a,b,c,d,e,f,h2,h3,h4⟩:=zl (st:=setAt 4) (body:=Bg) (Kf N m) (uZ 0 m) 0 [some (.int N),some (.int m),some (.tup sw),some (.tup []),none,none,none,none,none,none]
  ⟨[],none,none,none,none,none,none,rfl,rfl,fun x hx=>nomatch hx⟩ (fun i d ρ e p=>by
   obtain⟨ms,a,b,c,d',e',f,rfl,hl,hk⟩:=p
   obtain⟨rfl,hi⟩:=mD e
   obtain⟨r,o1,o2,o3,o4,o5,h1,h2,h3⟩:=nh (N:=N) (ms:=ms) (k:=(i:Int)) (a:=b) (b:=c) (c:=d') (d:=e') (e:=f) hm0 (by omega)
   refine⟨_,_,rfl,h1,ms++[r],_,_,_,_,_,_,rfl,by simp[hl],fun x hx=>?_⟩
   rcases Pi.mp hx with hx | hx
   ·exact hk x hx
   ·cases Od.mp hx
    exact⟨h2,h3⟩)
 subst h2
 rw[jU] at h3
 have hlen:((ms.length:Nat):Int)=m:=by omega
 have hr : -4611686018427387904<=m/\m<4611686018427387904:=by omega
 obtain⟨p,hp,hat⟩:=xu (xs:=[.int 3,.int 9]) (i:=N / 128%2) (O1 _ (by decide)) (OZ _ (by decide))
 have hp':∃v:Int,p=.int v/\0<v/\v<=9:=by
  simp at hp
  rcases hp with h | h<;>subst h
  ·exact⟨3,rfl,by decide,by decide⟩
  ·exact⟨9,rfl,by decide,by decide⟩
 obtain⟨v,rfl,hv0,hv9⟩:=hp'
 obtain⟨p2,hp2,hat2⟩:=xu (xs:=[.int 0,.int 7,.int 60,.int 1,.int 20]) (i:=N / 256%5) (O1 _ (by decide)) (OZ _ (by decide))
 have hp2':∃v:Int,p2=.int v/\0<=v/\v<=60:=by
  simp at hp2
  rcases hp2 with h | h | h | h | h<;>subst h
  ·exact⟨0,rfl,by decide,by decide⟩
  ·exact⟨7,rfl,by decide,by decide⟩
  ·exact⟨60,rfl,by decide,by decide⟩
  ·exact⟨1,rfl,by decide,by decide⟩
  ·exact⟨20,rfl,by decide,by decide⟩
 obtain⟨v2,rfl,hv20,hv260⟩:=hp2'
 have w0:0<=N / 8%v:=O1 _ (by omega)
 have w1:N / 8%v<v:=OZ _ hv0
 refine⟨.tup [.int (1+N / 8%v),.int v2,.tup ms],?_,?_,?_⟩
 ·have hi:vP (g4 1) [some (.int N),some (.int m),some (.tup sw),some (.tup []),none,none,none,none,none,none]=some (uZ 0 m):=by
   show(if -4611686018427387904<=m/\m<4611686018427387904 then some (uZ 0 m) else none)=_
   rw[Of hr]
  have h0:rL (.int 1) (.int (N%8))=some (.int m):=by rw[<- hM];rfl
  exact l5 ((l9 (p4 (k7 rfl (k7 rfl rfl (modS (by decide))) h0) rfl)).trans ((l9 (p4 rfl rfl)).trans ((l9 (p4 (tupS rfl) rfl)).trans ((l9 (Dn hi h1)).trans (retS (tupS (p5 (k7 rfl (k7 (k7 rfl rfl rfl) (k7 rfl (k7 (k7 rfl rfl rfl) rfl (modS (by decide))) hat) (modS hv0)) rfl) (p5 (k7 rfl (k7 (k7 rfl rfl rfl) rfl (modS (by decide))) hat2) rfl))))))))
 ·have ha:(ms.all fun y=>wW y ms.length)=true:=Oz.mpr fun y hy=>by rw[hlen];exact(h4 y hy).1
  have g1:1<=ms.length:=by omega
  have g8:ms.length<=8:=by omega
  simp[AG,within,AU,ha,g1,g8]
  omega
 ·refine .tup (by simp) fun y hy=>?_
  simp at hy
  rcases hy with h | h | h<;>subst h
  ·exact .int _
  ·exact .int _
  ·exact .tup (by omega) fun y hy=>(h4 y hy).2
def jN(C:Nat):R->N7 Out:=
 (l6 (vC (sZ C (oS "rung")) (g4 0)))
def bV(C:Nat):LD->OD:=via 1 1 (jN C)
def lA(C:Nat):R->N7 Out:=
 (l6 (h9 E6 (e8 (vW 0 C (oS "past") (JN 1 (C_ (vC (sZ C (oS "past")) (g4 0))) (setAt 0) Ay (i6 k8 (g4 0) (kI 0)))) g5)))
def cF(C:Nat):LD->OD:=via 1 1 (lA C)
def nK:R->N7 Out:=
  (Jj 1 g5
  (wK (BB (Eb (l7 J4 (g4 0) (fun _=>some et))))
  (wK (Bd 1 (h9 CM (e8 (g4 0) g5)))
  (Fz (l6 (h9 AO (e8 (kS "") (e8 (g4 1) g5))))))))
def cx:LD->OD:=via 1 2 nK
theorem Kx{p:R->LD->N7 (Out×LD)}{q:R->LD->N7 Out}{ρ ρ2:R}{ds ds2:LD}(h:p ρ ds=some (.nx ρ2,ds2)):wK p q ρ ds=q ρ2 ds2:=by simp[wK,h]
def tx(i:Int):Str:=Str.ofString (toString i)
theorem xU{n:Int}(h0:0<=n)(h1:n<1000000000000000000):n.natAbs.log2<1920:=by
 have h2:n.natAbs<2 ^ 60:=by omega
 by_cases hz:n.natAbs=0
 ·rw[hz];decide
 ·have:=(Nat.log2_lt hz).mpr h2;omega
theorem zd{n:Int}(h0:0<=n)(h1:n<1000000000000000000):(tx n).length<=1921:=PyProof.Rows.int_text_len_1921 (xU h0 h1)
theorem HH{n:Int}(h0:0<=n)(h1:n<1000000000000000000):CM [.int n]=some (.str (tx n)):=Of (xU h0 h1)
theorem J_{x:Str}(h:x.length<=100000):AO [.str (oS ""),.lst [.str x]]=some (.str x):=by
 have z:100000<=sizeLine:=by decide
 have e:(oS "").length=0:=by decide +kernel
 show(BJ (oS "") [x]).map D.str=_
 unfold BJ
 rw[Of]
 ·rfl
 ·constructor
  ·show 0+x.length+(oS "").length<=sizeLine
   rw[e];omega
  ·show x.length<=sizeLine
   omega
theorem jv{n:Int}(h0:0<=n)(h1:n<1000000000000000000):cx [.int n]=some (.str (tx n)):=by
 have hw:Eb (l7 J4 (g4 0) (fun _=>some et)) [some (.int n)]=some (.nx [some (.int n)]):=by
  have:¬ (1000000000000000000:Int)<=n:=by omega
  simp[et,this]
 have hs:=HH h0 h1
 have hj:=J_ (x:=tx n) (OH (zd h0 h1) (by decide))
 have z:0<sizeLine:=by decide
 have a1:BB (Eb (l7 J4 (g4 0) (fun _=>some et))) [some (.int n)] []=some (.nx [some (.int n)],[]):=by
  show(Eb _ _).map _=_
  rw[hw];rfl
 have a2:Bd 1 (h9 CM (e8 (g4 0) g5)) [some (.int n)] []=some (.nx [some (.int n)],[.str (tx n)]):=by
  show((CM [.int n]).bind _)=_
  rw[hs]
  show(if 1=1/\0<sizeLine then _ else none)=_
  rw[Of ⟨rfl,z⟩];rfl
 show wM (wK (BB (Eb (l7 J4 (g4 0) (fun _=>some et)))) _ [some (.int n)] [])=_
 rw[Kx a1,Kx a2]
 show wM ((AO [.str (oS ""),.lst [.str (tx n)]]).map .rt)=_
 rw[hj];rfl
def ju:R->N7 Out:=
 (l6 (h9 K9 (e8 (h9 cx (e8 (g4 0) g5)) (e8 (kI 2) (e8 (kS "0") g5)))))
def aN:LD->OD:=via 1 1 ju
def EB(n:Int):Str:=HU (tx n) 2 48
theorem vp{n:Int}(h0:0<=n)(h1:n<1000000000000000000):(EB n).length<=1921:=by
 unfold EB HU
 have:=zd h0 h1
 split
 ·exact this
 ·show(Array.replicate _ _++(tx n).cps++Array.replicate _ _).size<=_
  have e:(tx n).cps.size=(tx n).length:=rfl
  simp
  omega
theorem cy{n:Int}(h0:0<=n)(h1:n<1000000000000000000):aN [.int n]=some (.str (EB n)):=by
 have hf:K9 [.str (tx n),.int 2,.str (oS "0")]=some (.str (EB n)):=by
  have e:(oS "0").length=1:=by decide +kernel
  have e2:(oS "0").cps.getD 0 0=48:=by decide +kernel
  show(if (0:Int)<=2/\(2:Int)<=1000/\(oS "0").length=1 then some (D.str (HU (tx n) (2:Int).toNat ((oS "0").cps.getD 0 0))) else none)=_
  rw[Of ⟨by decide,by decide,e⟩,e2];rfl
 exact l5 (retS (i7 (p5 (i7 rfl (jv h0 h1)) rfl) hf))
def kZ:R->N7 Out:=
 (l6 (i6 rL (i6 rL (h9 aN (e8 (g4 0) g5)) (kS ":")) (h9 aN (e8 (g4 1) g5))))
def bH:LD->OD:=via 2 2 kZ
theorem AQ{x y:Str}(h:x.length+y.length<=100000):rL (.str x) (.str y)=some (.str (x++y)):=by
 have z:100000<=sizeLine:=by decide
 show(if x.length+y.length<=sizeLine then _ else none)=_
 rw[Of (by omega)]
theorem sS(x y:Str):(x++y).length=x.length+y.length:=by
 show(x.cps++y.cps).size=_
 simp;rfl
def colon:Str:=oS ":"
theorem sT:colon.length=1:=by decide +kernel
def xq(h m:Int):Str:=EB h++colon++EB m
theorem ww{h m:Int}(a0:0<=h)(a1:h<1000000000000000000)(b0:0<=m)(b1:m<1000000000000000000):(xq h m).length<=3843:=by
 unfold xq
 rw[sS,sS,sT]
 have:=vp a0 a1
 have:=vp b0 b1
 omega
theorem gP{h m:Int}(a0:0<=h)(a1:h<1000000000000000000)(b0:0<=m)(b1:m<1000000000000000000):bH [.int h,.int m]=some (.str (xq h m)):=by
 have l1:=vp a0 a1
 have l2:=vp b0 b1
 refine l5 (retS (k7 (k7 (i7 rfl (cy a0 a1)) rfl (AQ ?_)) (i7 rfl (cy b0 b1)) (AQ ?_)))
 ·rw[show(oS ":").length=1 from sT];omega
 ·rw[sS,show(oS ":").length=1 from sT];omega
def kC:R->N7 Out:=
  (m6 (m8 (i6 k8 (g4 0) (fun _=>some aV)) (setAt 1))
  (l6 (i6 rL (i6 rL (h9 bH (e8 (i6 uq (g4 1) (kI 3600)) (e8 (i6 r_ (i6 uq (g4 1) (kI 60)) (kI 60)) g5))) (kS ":")) (h9 aN (e8 (i6 r_ (g4 1) (kI 60)) g5)))))
def cC:LD->OD:=via 1 2 kC
def Dq(s:WS):Str:=xq (s.clock / 3600) (s.clock / 60%60)++colon++EB (s.clock%60)
theorem kN{b:Bk}{s:WS}(w:s.Wk b):cC [s.d]=some (.str (Dq s)):=by
 have c0:=w.clock0
 have c1:=w.clock1
 have l1:=ww (h:=s.clock / 3600) (m:=s.clock / 60%60) (by omega) (by omega) (by omega) (by omega)
 have l2:=vp (n:=s.clock%60) (by omega) (by omega)
 refine l5 ((l9 (p4 (k7 rfl rfl (w1 s)) rfl)).trans (retS (k7 (k7 (i7 (p5 (k7 rfl rfl rfl) (p5 (k7 (k7 rfl rfl rfl) rfl (modS (by decide))) rfl)) (gP (h:=s.clock / 3600) (m:=s.clock / 60%60) (by omega) (by omega) (by omega) (by omega))) rfl (AQ ?_)) (i7 (p5 (k7 rfl rfl (modS (by decide))) rfl) (cy (n:=s.clock%60) (by omega) (by omega))) (AQ ?_))))
 ·rw[show(oS ":").length=1 from sT];omega
 ·rw[sS,show(oS ":").length=1 from sT];omega
def jZ:R->N7 Out:=
  (m6 (m8 (i6 k8 (g4 0) (fun _=>some a_)) (setAt 1))
  (l6 (i6 rL (h9 bH (e8 (i6 k8 (g4 1) (kI 0)) (e8 (i6 k8 (g4 1) (kI 1)) g5))) (Ba (vK (i6 k8 (g4 1) (kI 2))) (kS " on") (kS "")))))
def bZ:LD->OD:=via 1 2 jZ
def JS:Str:=oS " on"
theorem DI:JS.length=3:=by decide +kernel
theorem xG:(oS "").length=0:=by decide +kernel
def Az(s:WS):Str:=xq s.ah s.am++(if s.aon then JS else oS "")
theorem j6{b:Bk}{s:WS}(w:s.Wk b):bZ [s.d]=some (.str (Az s)):=by
 have a0:=w.ah0
 have a1:s.ah<1000000000000000000:=by have:=w.ah1;omega
 have b0:=w.am0
 have b1:s.am<1000000000000000000:=by have:=w.am1;omega
 have l:=ww a0 a1 b0 b1
 have hon:∀(o:Bool) (ρ:R),(vK (i6 k8 (g4 1) (kI 2))) ρ=some o->(Ba (vK (i6 k8 (g4 1) (kI 2))) (kS " on") (kS "")) ρ=some (.str (if o then JS else oS "")):=fun o ρ h=>by
  cases o
  ·exact EC h rfl
  ·exact DB h rfl
 refine l5 ((l9 (p4 (k7 rfl rfl (w2 s)) rfl)).trans (retS (k7 (i7 (p5 (k7 rfl rfl (Lg s)) (p5 (k7 rfl rfl (KG s)) rfl)) (gP a0 a1 b0 b1)) (hon s.aon _ (BZ (k7 rfl rfl (Le s)))) (AQ ?_))))
 cases s.aon
 ·show(xq s.ah s.am).length+(oS "").length<=_
  rw[xG];omega
 ·show(xq s.ah s.am).length+JS.length<=_
  rw[DI];omega
def jh:R->N7 Out:=
 (l6 (i6 rL (i6 rL (h9 cx (e8 (i6 uq (g4 0) (kI 60)) g5)) (kS ":")) (h9 aN (e8 (i6 r_ (g4 0) (kI 60)) g5))))
def bp:LD->OD:=via 1 1 jh
def AA(s:Int):Str:=tx (s / 60)++colon++EB (s%60)
theorem cB{s:Int}(a0:0<=s)(a1:s<1000000000000000000):bp [.int s]=some (.str (AA s))/\(AA s).length<=3843:=by
 have c0:0<=s / 60:=by omega
 have c1:s / 60<1000000000000000000:=by omega
 have d0:0<=s%60:=by omega
 have d1:s%60<1000000000000000000:=by omega
 have l1:=zd c0 c1
 have l2:=vp d0 d1
 constructor
 ·refine l5 (retS (k7 (k7 (i7 (p5 (k7 rfl rfl rfl) rfl) (jv c0 c1)) rfl (AQ ?_)) (i7 (p5 (k7 rfl rfl (modS (by decide))) rfl) (cy d0 d1)) (AQ ?_)))
  ·rw[show(oS ":").length=1 from sT];omega
  ·rw[sS,show(oS ":").length=1 from sT];omega
 ·unfold AA
  rw[sS,sS,sT];omega
def kH:R->N7 Out:=
  (m6 (m8 (i6 k8 (g4 0) (fun _=>some bS)) (setAt 1))
  (m6 (m8 (h9 wB (e8 (i6 k8 (g4 1) (kI 2)) g5)) (setAt 2))
  (l6 (i6 rL (h9 bp (e8 (i6 k8 (g4 1) (kI 0)) g5)) (Ba (l7 Cq (g4 2) (kI 0)) (i6 rL (kS " +") (h9 CM (e8 (g4 2) g5))) (kS ""))))))
def cH:LD->OD:=via 1 3 kH
def Da:Str:=oS " +"
theorem xX:Da.length=2:=by decide +kernel
def xB(n:Nat):Str:=if 0<n then Da++tx n else oS ""
def C9(s:WS):Str:=AA s.lm++xB s.lk.length
theorem kT{b:Bk}{s:WS}(w:s.Wk b)(hl:s.lm<1000000000000000000):cH [s.d]=some (.str (C9 s)):=by
 have a0:=w.lm0
 obtain⟨e,l⟩:=cB a0 hl
 have hk:=w.lk
 have k0:(0:Int)<=(s.lk.length:Int):=by omega
 have k1:(s.lk.length:Int)<1000000000000000000:=by omega
 have l2:=zd k0 k1
 have hlen:h9 wB (e8 (i6 k8 (g4 1) (kI 2)) g5) [some s.d,some s.lapsD,none]=some (.int (s.lk.length:Int)):=i7 (p5 (k7 rfl rfl (K_ s)) rfl) (by simp)
 have hm:(Ba (l7 Cq (g4 2) (kI 0)) (i6 rL (kS " +") (h9 CM (e8 (g4 2) g5))) (kS "")) [some s.d,some s.lapsD,some (.int (s.lk.length:Int))]=some (.str (xB s.lk.length)):=by
  unfold xB
  by_cases h:0<s.lk.length
  ·rw[Of h]
   exact DB (sA rfl rfl (dT (by omega))) (k7 rfl (i7 rfl (HH k0 k1)) (AQ (by rw[show(oS " +").length=2 from xX];omega)))
  ·rw[Ov h]
   exact EC (sA rfl rfl (dF (by omega))) rfl
 refine l5 ((l9 (p4 (k7 rfl rfl (w3 s)) rfl)).trans ((l9 (p4 hlen rfl)).trans (retS (k7 (i7 (p5 (k7 rfl rfl (KA s)) rfl) e) hm (AQ ?_)))))
 unfold xB
 split
 ·rw[sS,xX];omega
 ·rw[xG];omega
def jT:R->N7 Out:=
 (l6 (h9 bp (e8 (i6 k8 (i6 k8 (g4 0) (fun _=>some aQ)) (kI 2)) g5)))
def cb:LD->OD:=via 1 1 jT
theorem j9{b:Bk}{s:WS}(w:s.Wk b):cb [s.d]=some (.str (AA s.cl)):=by
 have a0:=w.cl0
 have a1:s.cl<1000000000000000000:=by have:=w.cl1;omega
 exact l5 (retS (i7 (p5 (k7 (k7 rfl rfl (w4 s)) rfl (LF s)) rfl) (cB a0 a1).1))
def tS:List (Str×(LD->OD)):=[(oS "time",cC),(oS "alarm",bZ),(oS "laps",cH),(oS "count",cb)]
def qf:R->N7 Out:=
  (m6 (m8 (i6 k8 (i6 k8 (i6 k8 (g4 0) (kI 2)) (i6 k8 (g4 1) (fun _=>some bL))) (kI 0)) (setAt 2))
  (J0 3 tS (g4 2) (fun G_=>(l6 (rM (e8 (g4 2) (e8 (h9 G_ (e8 (g4 1) g5)) (e8 (Bm (l7 Cq (i6 k8 (g4 1) (fun _=>some ek)) (kI 0))) g5))))))))
def ft:LD->OD:=via 2 4 qf
def yY(f:Face)(s:WS):Str:=match f with
 | .time=>Dq s
 | .alarm=>Az s
 | .laps=>C9 s
 | .count=>AA s.cl
theorem AM{b:Bk}{s:WS}(w:s.Wk b)(hl:s.lm<1000000000000000000)(f:Face):∃F,tS.lookup f.x=some F/\F [s.d]=some (.str (yY f s)):=by
 cases f
 ·exact⟨_,rfl,kN w⟩
 ·exact⟨_,rfl,j6 w⟩
 ·exact⟨_,rfl,kT w hl⟩
 ·exact⟨_,rfl,j9 w⟩
theorem pK{b:Bk}{s:WS}(w:s.Wk b)(hl:s.lm<1000000000000000000):ft [b.d,s.d]=some (.tup [.str (b.modes.getD s.mode default).face.x,.str (yY (b.modes.getD s.mode default).face s),.bl (decide (0<s.ring))]):=by
 have hm:=ky b w.mode
 generalize b.modes.getD s.mode default=md at *
 obtain⟨F,h1,h2⟩:=AM w hl md.face
 have q1:m8 (i6 k8 (i6 k8 (i6 k8 (g4 0) (kI 2)) (i6 k8 (g4 1) (fun _=>some bL))) (kI 0)) (setAt 2) [some b.d,some s.d,none,none]=some (.nx [some b.d,some s.d,some (.str md.face.x),none]):=
  p4 (k7 (k7 (k7 rfl rfl (b2 b)) (k7 rfl rfl (w0 s)) hm) rfl (m0 md)) rfl
 refine l5 ((l9 q1).trans ?_)
 simp[-k8,J0,h1,h2,ek,w5]
def je(C:Nat):R->N7 Out:=
 (l6 (h9 ft (e8 (vC (sZ C (oS "book")) (g4 0)) (e8 (vC (sZ C (oS "present")) (g4 0)) g5))))
def bP(C:Nat):LD->OD:=via 1 1 (je C)
def t7(b:Bk)(s:WS):D:=.tup [.str (b.modes.getD s.mode default).face.x,.str (yY (b.modes.getD s.mode default).face s),.bl (decide (0<s.ring))]
def JO(b:Bk):WS->List Ev->LD
 | _,[]=>[]
 | s,e::es=>t7 b (gone b s e)::JO b (gone b s e) es
def M7:Ev->Int
 | .ticks n=>n
 | _=>0
theorem DL(d:vZ){s:WS}(h:0<=s.lm):(deed d s).lm<=s.lm:=by
 cases d<;>simp[deed,wI]<;>(repeat' split)<;>first | exact Int.le_refl _ | exact h
theorem yF(s:WS){n:Int}(h:0<=n):uU s n<=s.lm+n:=by unfold uU;split<;>omega
theorem DP{b:Bk}{s:WS}(h:0<=s.lm):(turned b s).lm<=s.lm:=by
 unfold turned
 split
 ·exact Int.le_refl _
 ·exact DL _ h
theorem Gy{b:Bk}{s:WS}(w:s.Wk b)(e:Ev)(he:e.Ok):(gone b s e).lm<=s.lm+M7 e:=by
 have h:=w.lm0
 cases e with
 | down x=>show(pushed s x).lm<=s.lm+0;unfold pushed;split<;>simp
 | up x =>
  show(letGo b s x).lm<=s.lm+0
  rw[Int.add_zero]
  unfold letGo
  split
  ·split
   ·split
    ·exact DL _ h
    ·exact Int.le_refl _
   ·exact Int.le_refl _
  ·exact Int.le_refl _
 | ticks n =>
  have hn:1<=n:=he
  show(ticked b s n).lm<=s.lm+n
  unfold ticked
  split
  ·exact yF s (by omega)
  ·rename_i t ht
   have tp:=vd ht
   split
   ·exact yF s (by omega)
   ·have a1:=yF (behind b s t) (n:=n - t) (by omega)
    have a2:(behind b s t).lm<=(counted b s t).lm:=DP (w.cnt (n:=t) (by omega)).lm0
    have a3:(counted b s t).lm<=s.lm+t:=yF s (by omega)
    show uU (behind b s t) (n - t)<=_
    omega
theorem cO{x y:Str}(h1:rG (.str x)=true)(h2:rG (.str y)=true):rG (.str (x++y))=true:=by
 rw[rG] at *
 show(x.cps++y.cps).all _=true
 rw[Array.all_append,h1,h2];rfl
theorem AB(s:String):(Str.ofString s).cps.all (·<0x110000)=true:=by
 rw[PySem.Str.ofString_eq_toList]
 simp only[List.all_toArray,Oz,List.mem_map]
 rintro x ⟨c,_,rfl⟩
 apply Pa
 show c.val.toNat<0x110000
 have v:c.val.toNat<0xd800\/(0xdfff<c.val.toNat/\c.val.toNat<0x110000):=c.valid
 omega
theorem lR(n:Int):rG (.str (tx n))=true:=by
 rw[rG]
 exact AB _
theorem ij(n:Int):rG (.str (EB n))=true:=by
 have h:=lR n
 rw[rG] at *
 unfold EB HU
 split
 ·exact h
 ·show(Array.replicate _ 48++(tx n).cps++Array.replicate _ 48).all _=true
  have r:∀k,(Array.replicate k 48).all (fun x=>decide (x<0x110000))=true:=by
   intro k
   rw[Array.all_eq_true]
   intro i hi
   simp
  rw[Array.all_append,Array.all_append,h,r,r];rfl
theorem gp:rG (.str colon)=true:=by rw[rG];decide +kernel
theorem mW:rG (.str (oS ""))=true:=by rw[rG];decide +kernel
theorem qR:rG (.str JS)=true:=by rw[rG];decide +kernel
theorem pB:rG (.str Da)=true:=by rw[rG];decide +kernel
theorem kD(h m:Int):rG (.str (xq h m))=true:=cO (cO (ij _) gp) (ij _)
theorem mQ(s:Int):rG (.str (AA s))=true:=cO (cO (lR _) gp) (ij _)
theorem nc(f:Face)(s:WS):rG (.str (yY f s))=true:=by
 cases f with
 | time=>exact cO (cO (kD _ _) gp) (ij _)
 | alarm=>exact cO (kD _ _) (by split;exact qR;exact mW)
 | laps=>exact cO (mQ _) (by unfold xB;split;exact cO pB (lR _);exact mW)
 | count=>exact mQ _
theorem pI(f:Face):rG (.str f.x)=true:=by rw[rG];cases f<;>decide +kernel
theorem jz(b:Bk)(s:WS):rG (t7 b s)=true:=by
 unfold t7
 rw[rG,tw,tw,tw,tw,pI,nc];rfl
def ji(C:Nat):R->N7 Out:=
 (l6 (vC (sZ C (oS "present")) (g4 0)))
def bN(C:Nat):LD->OD:=via 1 1 (ji C)
def gJ(C:Nat):R->N7 Out:=
 (l6 (rM (e8 (El C (oS "state") (bN C) (g4 0) g5) (e8 (El C (oS "shown") (bP C) (g4 0) g5) (e8 (El C (oS "rang") (bV C) (g4 0) g5) (e8 (El C (oS "row") (cF C) (g4 0) g5) g5))))))
def ay(C:Nat):LD->OD:=via 1 1 (gJ C)
def kt:R->N7 Out:=
  (m6 (m8 (i6 k8 (kS "abcaab") (i6 r_ (i6 uq (g4 0) (kI 8)) (kI 6))) (setAt 1))
  (m6 (m8 (i6 r_ (g4 0) (kI 8)) (setAt 2))
  (m6 (xM (l7 K2 (g4 2) (kI 3))
  (l6 (rM (e8 (kS "down") (e8 (g4 1) g5))))
  sC)
  (m6 (xM (l7 K2 (g4 2) (kI 6))
  (l6 (rM (e8 (kS "up") (e8 (g4 1) g5))))
  sC)
  (l6 (rM (e8 (kS "ticks") (e8 (i6 rL (kI 1) (i6 r_ (i6 uq (g4 0) (kI 64)) (i6 k8 (rM (e8 (kI 4) (e8 (kI 12) (e8 (kI 130) g5)))) (i6 r_ (i6 uq (g4 0) (kI 4096)) (kI 3))))) g5))))))))
def bK:LD->OD:=via 1 3 kt
def Jx:Ev->Prop
 | .ticks n=>n<=130
 | _=>True
def Ev.Lt(e:Ev):Prop:=e.Ok/\Jx e
theorem Mt{i:Int}(h0:0<=i)(h1:i<6):∃x:uS,k8 (.str (oS "abcaab")) (.int i)=some (.str x.x):=by
 have:i=0\/i=1\/i=2\/i=3\/i=4\/i=5:=by omega
 rcases this with rfl | rfl | rfl | rfl | rfl | rfl
 ·exact⟨.a,rfl⟩
 ·exact⟨.b,rfl⟩
 ·exact⟨.c,rfl⟩
 ·exact⟨.a,rfl⟩
 ·exact⟨.a,rfl⟩
 ·exact⟨.b,rfl⟩
theorem Kc{i:Int}(h0:0<=i)(h1:i<3):∃t:Int,k8 (.tup [.int 4,.int 12,.int 130]) (.int i)=some (.int t)/\0<t/\t<=130:=by
 have:i=0\/i=1\/i=2:=by omega
 rcases this with rfl | rfl | rfl
 ·exact⟨4,rfl,by decide,by decide⟩
 ·exact⟨12,rfl,by decide,by decide⟩
 ·exact⟨130,rfl,by decide,by decide⟩
theorem CB(n:Int):∃e:Ev,bK [.int n]=some e.d/\e.Lt:=by
 obtain⟨x,hx⟩:=Mt (i:=n / 8%6) (by omega) (by omega)
 by_cases h1:n%8<3
 ·exact⟨.down x,l5 ((l9 (p4 (k7 rfl (k7 (k7 rfl rfl rfl) rfl (modS (by decide))) hx) rfl)).trans ((l9 (p4 (k7 rfl rfl (modS (by decide))) rfl)).trans (uK ((yI (sA rfl rfl (dT h1))).trans (retS rfl))))),trivial,trivial⟩
 ·by_cases h2:n%8<6
  ·exact⟨.up x,l5 ((l9 (p4 (k7 rfl (k7 (k7 rfl rfl rfl) rfl (modS (by decide))) hx) rfl)).trans ((l9 (p4 (k7 rfl rfl (modS (by decide))) rfl)).trans ((l9 (xR (sA rfl rfl (dF h1)))).trans (uK ((yI (sA rfl rfl (dT h2))).trans (retS rfl)))))),trivial,trivial⟩
  ·obtain⟨t,ht,t0,t1⟩:=Kc (i:=n / 4096%3) (by omega) (by omega)
   have hm:=O1 (n / 64) (show t≠0 by omega)
   have hm2:=OZ (n / 64) t0
   exact⟨.ticks (1+n / 64%t),l5 ((l9 (p4 (k7 rfl (k7 (k7 rfl rfl rfl) rfl (modS (by decide))) hx) rfl)).trans ((l9 (p4 (k7 rfl rfl (modS (by decide))) rfl)).trans ((l9 (xR (sA rfl rfl (dF h1)))).trans ((l9 (xR (sA rfl rfl (dF h2)))).trans (retS (tupS (p5 rfl (p5 (k7 rfl (k7 (k7 rfl rfl rfl) (k7 rfl (k7 (k7 rfl rfl rfl) rfl (modS (by decide))) ht) (modS t0)) rfl) rfl)))))))),by show 1<=_;omega,by show _<=130;omega⟩
def wO:Nat->R->N7 Out:=(fun c=>(m8 (rM (e8 (kS "refused") (e8 (fun _=>some .non) g5))) (setAt 1)))
def k9:Nat->OD:=fun c=>if c<2 then some (.tup [.str (oS "refused"),.non]) else none
theorem wU(c:Nat)(d:D)(h:k9 c=some d):c<2/\∃ ρ',wO c (List.replicate 2 none)=some (.nx ρ')/\g4 1 ρ'=some d:=by
 unfold k9 at h
 split at h
 ·rename_i hc
  cases h
  exact⟨hc,_,rfl,rfl⟩
 ·cases h
def nJ:R->N7 Out:=
 (l6 (Ba (vK (i6 k8 (g4 0) (kI 1))) (rM (e8 (i6 rL (i6 k8 (g4 0) (kI 0)) (g4 1)) (e8 (fun _=>some (.bl true)) (e8 (i6 k8 (g4 0) (kI 2)) g5)))) (g4 0)))
def dO:LD->OD:=via 2 2 nJ
theorem nz(s:WS)(n:Int):dO [s.lapsD,.int n]=some (.tup [.int (uU s n),.bl s.lr,.tup (s.lk.map .int)]):=by
 have e:uU s n=if s.lr then s.lm+n else s.lm:=rfl
 rw[e]
 have t:vK (i6 k8 (g4 0) (kI 1)) [some s.lapsD,some (.int n)]=some s.lr:=BZ (k7 rfl rfl (LW s))
 cases hr:s.lr with
 | false =>
  rw[hr] at t
  have q:s.lapsD=.tup [.int s.lm,.bl false,.tup (s.lk.map .int)]:=by rw[<- hr];rfl
  exact(l5 (retS (EC t rfl))).trans (congrArg some q)
 | true =>
  rw[hr] at t
  exact l5 (retS (DB t (tupS (p5 (k7 (k7 rfl rfl (KA s)) rfl rfl) (p5 rfl (p5 (k7 rfl rfl (K_ s)) rfl))))))
def me:R->N7 Out:=
  (m6 (xM (Cw (vK (i6 k8 (g4 0) (kI 3))))
  (l6 (g4 0))
  sC)
  (m6 (m8 (h9 CL (e8 (kI 0) (e8 (i6 uW (i6 k8 (g4 0) (kI 2)) (g4 1)) g5))) (setAt 2))
  (l6 (rM (e8 (i6 k8 (g4 0) (kI 0)) (e8 (i6 k8 (g4 0) (kI 1)) (e8 (g4 2) (e8 (Bm (l7 Cq (g4 2) (kI 0))) g5))))))))
def da:LD->OD:=via 2 3 me
theorem lT(s:WS)(n:Int):da [s.countD,.int n]=some (.tup [.int s.cm,.int s.cs,.int (vq s n),.bl (runsOn s n)]):=by
 have e1:vq s n=if s.cr then mx 0 (s.cl - n) else s.cl:=rfl
 have e2:runsOn s n=(s.cr&&decide (0<mx 0 (s.cl - n))):=rfl
 rw[e1,e2]
 have t:vK (i6 k8 (g4 0) (kI 3)) [some s.countD,some (.int n),none]=some s.cr:=BZ (k7 rfl rfl (MH s))
 cases hr:s.cr with
 | false =>
  rw[hr] at t
  have q:s.countD=.tup [.int s.cm,.int s.cs,.int s.cl,.bl false]:=by rw[<- hr];rfl
  exact(l5 (uK ((yI (Gj (b:=false) t)).trans (retS rfl)))).trans (congrArg some q)
 | true =>
  rw[hr] at t
  exact l5 ((l9 ((xR (Gj (b:=true) t)).trans rfl)).trans ((l9 (p4 (i7 (p5 rfl (p5 (k7 (k7 rfl rfl (LF s)) rfl rfl) rfl)) (Lf _ _)) rfl)).trans (retS (tupS (p5 (k7 rfl rfl (Kn s)) (p5 (k7 rfl rfl (Ke s)) (p5 rfl (p5 (Gk (sA rfl rfl rfl)) rfl))))))))
def jP:R->N7 Out:=
  (m6 (m8 (i6 k8 (g4 0) (fun _=>some a_)) (setAt 1))
  (m6 (xM (Cw (vK (i6 k8 (g4 1) (kI 2))))
  (l6 (fun _=>some .non))
  sC)
  (m6 (m8 (i6 rL (i6 v3 (kI 3600) (i6 k8 (g4 1) (kI 0))) (i6 v3 (kI 60) (i6 k8 (g4 1) (kI 1)))) (setAt 2))
  (l6 (i6 rL (i6 r_ (i6 uW (i6 uW (g4 2) (i6 k8 (g4 0) (fun _=>some aV))) (kI 1)) (fun _=>some eM)) (kI 1))))))
def aS:LD->OD:=via 1 3 jP
theorem fW(s:WS):aS [s.d]=some (sF (n8 s)):=by
 have e2:=Le s
 unfold n8
 cases ha:s.aon<;>rw[ha] at e2
 ·exact l5 ((l9 (p4 (k7 rfl rfl (w2 s)) rfl)).trans (uK ((yI (Gj (b:=false) (BZ (k7 rfl rfl e2)))).trans (retS rfl))))
 ·exact l5 ((l9 (p4 (k7 rfl rfl (w2 s)) rfl)).trans ((l9 (xR (Gj (b:=true) (BZ (k7 rfl rfl e2))))).trans ((l9 (p4 (k7 (k7 rfl (k7 rfl rfl (Lg s)) (Hg _)) (k7 rfl (k7 rfl rfl (KG s)) (HP _)) rfl) rfl)).trans (retS (k7 (k7 (k7 (k7 rfl (k7 rfl rfl (w1 s)) rfl) rfl rfl) rfl (modS (by decide))) rfl rfl)))))
def kg:R->N7 Out:=
  (m6 (m8 (i6 k8 (g4 0) (fun _=>some aQ)) (setAt 1))
  (l6 (Ba (vK (i6 k8 (g4 1) (kI 3))) (i6 k8 (g4 1) (kI 2)) (fun _=>some .non))))
def aZ:LD->OD:=via 1 2 kg
theorem gc(s:WS):aZ [s.d]=some (sF (sg s)):=by
 have e3:=MH s
 unfold sg
 cases ha:s.cr<;>rw[ha] at e3
 ·exact l5 ((l9 (p4 (k7 rfl rfl (w4 s)) rfl)).trans (retS (EC (BZ (k7 rfl rfl e3)) rfl)))
 ·exact l5 ((l9 (p4 (k7 rfl rfl (w4 s)) rfl)).trans (retS (DB (BZ (k7 rfl rfl e3)) (k7 rfl rfl (LF s)))))
def kF:R->N7 Out:=
  (m6 (m8 (h9 aS (e8 (g4 0) g5)) (setAt 2))
  (m6 (m8 (h9 aZ (e8 (g4 0) g5)) (setAt 3))
  (Jj 4 g5
  (wK (HI (Ec (l7 vF (g4 2) (fun _=>some .non)) (l7 JV (g4 2) (g4 1)))
  (Bd 4 (i6 uW (g4 1) (i6 r_ (i6 uW (g4 1) (g4 2)) (fun _=>some eM))))
  zN)
  (wK (HI (Ec (l7 vF (g4 3) (fun _=>some .non)) (l7 JV (g4 3) (g4 1)))
  (Bd 4 (g4 3))
  zN)
  (Fz (l6 (h9 Bt (e8 (g4 4) g5)))))))))
def cG:LD->OD:=via 2 5 kF
def Dw(n:Int)(o:N7 Int):LD:=match o with
 | some a=>if a<=n then [.int (n - (n - a)%86400)] else []
 | none=>[]
def HR(n:Int)(o:N7 Int):LD:=match o with
 | some c=>if c<=n then [.int c] else []
 | none=>[]
theorem Jn(s:WS)(n:Int):Bt [.lst (Dw n (n8 s)++HR n (sg s))]=some (sF (va s n)):=by
 unfold va
 cases n8 s<;>cases sg s
 ·rfl
 ·rename_i c;by_cases h:c<=n<;>simp[Dw,HR,h,sF]
 ·rename_i a;by_cases h:a<=n<;>simp[Dw,HR,h,sF]
 ·rename_i a c;by_cases h:a<=n<;>by_cases h':c<=n<;>simp[Dw,HR,h,h',sF,mx]
theorem M6{p:R->LD->N7 (Out×LD)}{q:R->LD->N7 Out}{ρ ρ2:R}{ds ds2:LD}(h:p ρ ds=some (.nx ρ2,ds2)):wK p q ρ ds=q ρ2 ds2:=by simp[h]
theorem J8{c:R->N7 Bool}{p q:R->LD->N7 (Out×LD)}{ρ:R}{ds:LD}(h:c ρ=some true):HI c p q ρ ds=p ρ ds:=by simp[h]
theorem Ku{c:R->N7 Bool}{p q:R->LD->N7 (Out×LD)}{ρ:R}{ds:LD}(h:c ρ=some false):HI c p q ρ ds=q ρ ds:=by simp[h]
theorem kW(s:WS)(n:Int):cG [s.d,.int n]=some (sF (va s n)):=by
 have e1:=fW s
 have e2:=gc s
 rw[<- Jn]
 generalize n8 s=a at *
 generalize sg s=c at *
 have z0:0<sizeLine:=by decide
 have z1:1<sizeLine:=by decide
 have q1:m8 (h9 aS (e8 (g4 0) g5)) (setAt 2) [some s.d,some (.int n),none,none,none]=some (.nx [some s.d,some (.int n),some (sF a),none,none]):=by
  show(aS [s.d]).bind _=_
  rw[e1];rfl
 have q2:m8 (h9 aZ (e8 (g4 0) g5)) (setAt 3) [some s.d,some (.int n),some (sF a),none,none]=some (.nx [some s.d,some (.int n),some (sF a),some (sF c),none]):=by
  show(aZ [s.d]).bind _=_
  rw[e2];rfl
 have q3:HI (Ec (l7 vF (g4 2) (fun _=>some .non)) (l7 JV (g4 2) (g4 1))) (Bd 4 (i6 uW (g4 1) (i6 r_ (i6 uW (g4 1) (g4 2)) (fun _=>some eM)))) zN [some s.d,some (.int n),some (sF a),some (sF c)] []=some (.nx [some s.d,some (.int n),some (sF a),some (sF c)],Dw n a):=by
  cases a with
  | none=>rfl
  | some a =>
   show _=some (Out.nx _,if a<=n then _ else _)
   by_cases h:a<=n
   ·rw[J8 (dT h),Of h]
    show(if 4=4/\0<sizeLine then _ else none)=_
    rw[Of ⟨rfl,z0⟩];rfl
   ·rw[Ku (dF h),Ov h];rfl
 have hl:(Dw n a).length<=1:=by
  unfold Dw
  split
  ·split<;>simp
  ·simp
 have hl2:(Dw n a).length<sizeLine:=Nat.lt_of_le_of_lt hl z1
 have q4:HI (Ec (l7 vF (g4 3) (fun _=>some .non)) (l7 JV (g4 3) (g4 1))) (Bd 4 (g4 3)) zN [some s.d,some (.int n),some (sF a),some (sF c)] (Dw n a)=some (.nx [some s.d,some (.int n),some (sF a),some (sF c)],Dw n a++HR n c):=by
  cases c with
  | none=>show some _=_;rw[show HR n none=[] from rfl,OQ]
  | some c =>
   show _=some (Out.nx _,Dw n a++if c<=n then _ else _)
   by_cases h:c<=n
   ·rw[J8 (dT h),Of h]
    show(if 4=4/\(Dw n a).length<sizeLine then _ else none)=_
    rw[Of ⟨rfl,hl2⟩];rfl
   ·rw[Ku (dF h),Ov h,OQ];rfl
 show wM (m6 (m8 (h9 aS (e8 (g4 0) g5)) (setAt 2)) _ [some s.d,some (.int n),none,none,none])=_
 rw[l9 q1,l9 q2]
 show wM (wK (HI (Ec (l7 vF (g4 2) (fun _=>some .non)) (l7 JV (g4 2) (g4 1))) (Bd 4 (i6 uW (g4 1) (i6 r_ (i6 uW (g4 1) (g4 2)) (fun _=>some eM)))) zN) _ [some s.d,some (.int n),some (sF a),some (sF c)] [])=_
 rw[M6 q3,M6 q4]
 show wM ((Bt [.lst (Dw n a++HR n c)]).map .rt)=_
 cases Bt [.lst (Dw n a++HR n c)]<;>rfl
def nT:R->N7 Out:=
  (m6 (m8 (h9 cG (e8 (g4 0) (e8 (g4 1) g5))) (setAt 2))
  (m6 (xM (l7 x4 (g4 2) (fun _=>some .non))
  (l6 (h9 CL (e8 (kI 0) (e8 (i6 uW (i6 k8 (g4 0) (fun _=>some ek)) (g4 1)) g5))))
  sC)
  (l6 (h9 CL (e8 (kI 0) (e8 (i6 uW (fun _=>some eU) (i6 uW (g4 1) (g4 2))) g5))))))
def dN:LD->OD:=via 2 3 nT
theorem nL(s:WS)(n:Int):dN [s.d,.int n]=some (.int (y1 s n)):=by
 have e:=kW s n
 unfold y1
 cases h:va s n with
 | none =>
  rw[h] at e
  exact l5 ((l9 (p4 (i7 rfl e) rfl)).trans (uK ((yI (sA rfl rfl rfl)).trans (retS (i7 (p5 rfl (p5 (k7 (k7 rfl rfl (w5 s)) rfl rfl) rfl)) (Lf _ _))))))
 | some l =>
  rw[h] at e
  exact l5 ((l9 (p4 (i7 rfl e) rfl)).trans ((l9 ((xR (sA rfl rfl rfl)).trans rfl)).trans (retS (i7 (p5 rfl (p5 (k7 rfl (k7 rfl rfl rfl) rfl) rfl)) (Lf _ _)))))
def nr:R->N7 Out:=
  (m6 (xM (BW (l7 x4 (g4 0) (fun _=>some .non)) (l7 x4 (i6 k8 (g4 0) (kI 1)) (fun _=>some .non)))
  (l6 (g4 0))
  sC)
  (l6 (rM (e8 (i6 k8 (g4 0) (kI 0)) (e8 (i6 rL (i6 k8 (g4 0) (kI 1)) (g4 1)) g5)))))
def dL:LD->OD:=via 2 2 nr
theorem nB(h:N7 (uS×N7 Int))(n:Int):dL [um h,.int n]=some (um (AW h n)):=by
 rcases h with _ | ⟨x,_ | k⟩
 ·exact l5 (uK ((yI (L1 (sA rfl rfl rfl))).trans (retS rfl)))
 ·exact l5 (uK ((yI (J1 (sA rfl rfl rfl) (sA (k7 rfl rfl rfl) rfl rfl))).trans (retS rfl)))
 ·exact l5 ((l9 ((xR (J1 (sA rfl rfl rfl) (sA (k7 rfl rfl rfl) rfl rfl))).trans rfl)).trans (retS (tupS (p5 (k7 rfl rfl rfl) (p5 (k7 (k7 rfl rfl rfl) rfl rfl) rfl)))))
def hV:R->N7 Out:=
 (l6 (h9 CL (e8 (kI 1) (e8 (i6 uW (i6 k8 (g4 0) (kI 1)) (i6 k8 (g4 1) (fun _=>some cW))) g5))))
def aX:LD->OD:=via 2 2 hV
theorem eK(b:Bk)(s:WS):aX [b.d,s.d]=some (.int (vn b s)):=l5 (retS (i7 (p5 rfl (p5 (k7 (k7 rfl rfl (b1 b)) (k7 rfl rfl (w7 s)) rfl) rfl)) (Lf _ _)))
def nF:R->N7 Out:=
  (m6 (xM (BW (l7 vF (i6 k8 (g4 1) (fun _=>some bg)) (fun _=>some .non)) (l7 xK (i6 k8 (g4 0) (kI 1)) (kI 0)))
  (l6 (i6 k8 (g4 1) (fun _=>some cW)))
  sC)
  (m6 (m8 (h9 aX (e8 (g4 0) (e8 (g4 1) g5))) (setAt 3))
  (l6 (Ba (l7 K2 (g4 2) (g4 3)) (i6 rL (i6 k8 (g4 1) (fun _=>some cW)) (g4 2)) (i6 r_ (i6 uW (g4 2) (g4 3)) (i6 k8 (g4 0) (kI 1)))))))
def dD:LD->OD:=via 3 4 nF
theorem nv{b:Bk}{s:WS}(n:Int)(hb:0<=b.back):dD [b.d,s.d,.int n]=some (.int (vS b s n)):=by
 have e:=eK b s
 have e6:=w6 s
 have e7:=w7 s
 unfold vS
 cases hh:s.held with
 | some v =>
  rw[hh] at e6
  rw[Of (.inl rfl)]
  exact l5 (uK ((yI (L1 (sA (k7 rfl rfl e6) rfl rfl))).trans (retS (k7 rfl rfl e7))))
 | none =>
  rw[hh] at e6
  by_cases h0:b.back=0
  ·rw[Of (.inr h0)]
   exact l5 (uK ((yI (J1 (sA (k7 rfl rfl e6) rfl rfl) (sA (k7 rfl rfl (b1 b)) rfl (Nv h0)))).trans (retS (k7 rfl rfl e7))))
  ·have hp:0<b.back:=by omega
   have q1:xM (BW (l7 vF (i6 k8 (g4 1) (fun _=>some bg)) (fun _=>some .non)) (l7 xK (i6 k8 (g4 0) (kI 1)) (kI 0))) (l6 (i6 k8 (g4 1) (fun _=>some cW))) sC [some b.d,some s.d,some (.int n),none]=some (.nx [some b.d,some s.d,some (.int n),none]):=
    xR (J1 (sA (k7 rfl rfl e6) rfl rfl) (sA (k7 rfl rfl (b1 b)) rfl (NQ h0)))
   rw[Ov (by rintro(z | z);cases z;exact h0 z)]
   by_cases h1:n<vn b s
   ·rw[Of h1]
    exact l5 ((l9 q1).trans ((l9 (p4 (i7 rfl e) rfl)).trans (retS (DB (sA (x:=.int n) (y:=.int (vn b s)) rfl rfl (dT h1)) (k7 (k7 rfl rfl e7) rfl rfl)))))
   ·rw[Ov h1]
    exact l5 ((l9 q1).trans ((l9 (p4 (i7 rfl e) rfl)).trans (retS (EC (sA (x:=.int n) (y:=.int (vn b s)) rfl rfl (dF h1)) (k7 rfl (k7 rfl rfl (b1 b)) (modS hp))))))
def nk:R->N7 Out:=
 (l6 (rM (e8 (i6 k8 (g4 1) (fun _=>some bL)) (e8 (i6 r_ (i6 rL (i6 k8 (g4 1) (fun _=>some aV)) (g4 2)) (fun _=>some eM)) (e8 (i6 k8 (g4 1) (fun _=>some a_)) (e8 (h9 dO (e8 (i6 k8 (g4 1) (fun _=>some bS)) (e8 (g4 2) g5))) (e8 (h9 da (e8 (i6 k8 (g4 1) (fun _=>some aQ)) (e8 (g4 2) g5))) (e8 (h9 dN (e8 (g4 1) (e8 (g4 2) g5))) (e8 (h9 dL (e8 (i6 k8 (g4 1) (fun _=>some bg)) (e8 (g4 2) g5))) (e8 (h9 dD (e8 (g4 0) (e8 (g4 1) (e8 (g4 2) g5)))) g5))))))))))
def cg:LD->OD:=via 3 3 nk
theorem gH{b:Bk}{s:WS}(n:Int)(hb:0<=b.back):cg [b.d,s.d,.int n]=some (counted b s n).d:=
 l5 (retS (tupS (p5 (k7 rfl rfl (w0 s)) (p5 (k7 (k7 (k7 rfl rfl (w1 s)) rfl rfl) rfl rfl) (p5 (k7 rfl rfl (w2 s)) (p5 (i7 (p5 (k7 rfl rfl (w3 s)) rfl) (nz s n)) (p5 (i7 (p5 (k7 rfl rfl (w4 s)) rfl) (lT s n)) (p5 (i7 rfl (nL s n)) (p5 (i7 (p5 (k7 rfl rfl (w6 s)) rfl) (nB s.held n)) (p5 (i7 rfl (nv n hb)) rfl))))))))))
def lB:R->N7 Out:=
 (l6 (AN (Bm (l7 Cq (i6 k8 (g4 0) (kI 1)) (kI 0))) (AN (Bm (l7 Ik (i6 k8 (g4 1) (fun _=>some bL)) (kI 0))) (Cc (i6 k8 (i6 k8 (i6 k8 (g4 0) (kI 2)) (i6 k8 (g4 1) (fun _=>some bL))) (kI 1))))))
def cE:LD->OD:=via 2 2 lB
theorem ly{b:Bk}{s:WS}(w:s.Wk b):cE [b.d,s.d]=some (.bl (v4 b s)):=by
 have hm:=ky b w.mode
 unfold v4
 have c1:Bm (l7 Cq (i6 k8 (g4 0) (kI 1)) (kI 0)) [some b.d,some s.d]=some (.bl (decide (0<b.back))):=Gk (sA (k7 rfl rfl (b1 b)) rfl rfl)
 have e2:Ik (.int (s.mode:Int)) (.int 0)=some (!decide (s.mode=0)):=by
  show some (!((s.mode:Int)==0))=_
  cases s.mode<;>rfl
 have c2:Bm (l7 Ik (i6 k8 (g4 1) (fun _=>some bL)) (kI 0)) [some b.d,some s.d]=some (.bl (!decide (s.mode=0))):=Gk (sA (k7 rfl rfl (w0 s)) rfl e2)
 generalize b.modes.getD s.mode default=md at *
 have c3:Cc (i6 k8 (i6 k8 (i6 k8 (g4 0) (kI 2)) (i6 k8 (g4 1) (fun _=>some bL))) (kI 1)) [some b.d,some s.d]=some (.bl !md.stays):=by
  show(i6 k8 _ _ _).bind _=_
  rw[k7 (k7 (k7 rfl rfl (b2 b)) (k7 rfl rfl (w0 s)) hm) rfl (m1 md)];rfl
 generalize decide (0<b.back)=p at *
 generalize (!decide (s.mode=0))=q at *
 cases p
 ·exact l5 (retS (DZ c1))
 ·cases q
  ·exact l5 (retS (J3 c1 (DZ c2)))
  ·exact l5 (retS (J3 c1 (J3 c2 c3)))
def gU:R->N7 Out:=
 (l6 (h9 CL (e8 (kI 1) (e8 (i6 uW (i6 k8 (g4 0) (kI 0)) (i6 k8 (i6 k8 (g4 1) (fun _=>some bg)) (kI 1))) g5))))
def bz:LD->OD:=via 2 2 gU
theorem gT{b:Bk}{s:WS}{x:uS}{k:Int}(h:s.held=some (x,some k)):bz [b.d,s.d]=some (.int (mx 1 (b.hold - k))):=by
 have e6:=w6 s
 rw[h] at e6
 exact l5 (retS (i7 (p5 rfl (p5 (k7 (k7 rfl rfl (b0 b)) (k7 (k7 rfl rfl e6) rfl (h1 x (some k))) rfl) rfl)) (Lf _ _)))
def kz:R->N7 Out:=
  (m6 (m8 (i6 k8 (g4 1) (fun _=>some bg)) (setAt 2))
  (m6 (xM (l7 x4 (g4 2) (fun _=>some .non))
  (l6 (Ba (vK (h9 cE (e8 (g4 0) (e8 (g4 1) g5)))) (h9 aX (e8 (g4 0) (e8 (g4 1) g5))) (fun _=>some .non)))
  sC)
  (l6 (Ba (l7 x4 (i6 k8 (g4 2) (kI 1)) (fun _=>some .non)) (fun _=>some .non) (h9 bz (e8 (g4 0) (e8 (g4 1) g5)))))))
def bJ:LD->OD:=via 2 3 kz
theorem gO{b:Bk}{s:WS}(w:s.Wk b):bJ [b.d,s.d]=some (sF (rY b s)):=by
 have e1:=ly w
 have e2:=eK b s
 have e6:=w6 s
 unfold rY
 rcases hs:s.held with _ | ⟨x,_ | k⟩<;>rw[hs] at e6
 ·cases hg:v4 b s<;>rw[hg] at e1
  ·exact l5 ((l9 (p4 (k7 rfl rfl e6) rfl)).trans (uK ((yI rfl).trans (retS (EC (BZ (i7 rfl e1)) rfl)))))
  ·exact l5 ((l9 (p4 (k7 rfl rfl e6) rfl)).trans (uK ((yI rfl).trans (retS (DB (BZ (i7 rfl e1)) (i7 rfl e2))))))
 ·exact l5 ((l9 (p4 (k7 rfl rfl e6) rfl)).trans ((l9 (xR rfl)).trans (retS (DB rfl rfl))))
 ·have e3:=gT (b:=b) hs
  exact l5 ((l9 (p4 (k7 rfl rfl e6) rfl)).trans ((l9 (xR rfl)).trans (retS (EC rfl (i7 rfl e3)))))
def rq:R->N7 Out:=
 (l6 (i6 rL (i6 rL (K7 (g4 0) MV (aP (g4 1))) (rM (e8 (g4 2) g5))) (K7 (g4 0) (aP (i6 rL (g4 1) (kI 1))) MV)))
def aH:LD->OD:=via 3 3 rq
section
variable(a b c d e f g i x:D)
theorem vV{xs ys:LD}(h:xs.length+ys.length<=8):rL (.tup xs) (.tup ys)=some (.tup (xs++ys)):=by
 show(if xs.length+ys.length<=sizeLine then _ else none)=_
 rw[Of (OH h NH)]
theorem MT:aH [.tup [a,b,c,d,e,f,g,i],.int 0,x]=some (.tup [x,b,c,d,e,f,g,i]):=l5 (retS (k7 (k7 (B4 rfl rfl rfl rfl) (tupS (p5 rfl rfl)) (vV (show 1<=8 by decide))) (B4 rfl rfl rfl rfl) (vV (show 8<=8 by decide))))
theorem Mb:aH [.tup [a,b,c,d,e,f,g,i],.int 1,x]=some (.tup [a,x,c,d,e,f,g,i]):=l5 (retS (k7 (k7 (B4 rfl rfl rfl rfl) (tupS (p5 rfl rfl)) (vV (show 2<=8 by decide))) (B4 rfl rfl rfl rfl) (vV (show 8<=8 by decide))))
theorem put2:aH [.tup [a,b,c,d,e,f,g,i],.int 2,x]=some (.tup [a,b,x,d,e,f,g,i]):=l5 (retS (k7 (k7 (B4 rfl rfl rfl rfl) (tupS (p5 rfl rfl)) (vV (show 3<=8 by decide))) (B4 rfl rfl rfl rfl) (vV (show 8<=8 by decide))))
theorem put3:aH [.tup [a,b,c,d,e,f,g,i],.int 3,x]=some (.tup [a,b,c,x,e,f,g,i]):=l5 (retS (k7 (k7 (B4 rfl rfl rfl rfl) (tupS (p5 rfl rfl)) (vV (show 4<=8 by decide))) (B4 rfl rfl rfl rfl) (vV (show 8<=8 by decide))))
theorem LX:aH [.tup [a,b,c,d,e,f,g,i],.int 4,x]=some (.tup [a,b,c,d,x,f,g,i]):=l5 (retS (k7 (k7 (B4 rfl rfl rfl rfl) (tupS (p5 rfl rfl)) (vV (show 5<=8 by decide))) (B4 rfl rfl rfl rfl) (vV (show 8<=8 by decide))))
theorem Mm:aH [.tup [a,b,c,d,e,f,g,i],.int 5,x]=some (.tup [a,b,c,d,e,x,g,i]):=l5 (retS (k7 (k7 (B4 rfl rfl rfl rfl) (tupS (p5 rfl rfl)) (vV (show 6<=8 by decide))) (B4 rfl rfl rfl rfl) (vV (show 8<=8 by decide))))
theorem IN:aH [.tup [a,b,c,d,e,f,g,i],.int 6,x]=some (.tup [a,b,c,d,e,f,x,i]):=l5 (retS (k7 (k7 (B4 rfl rfl rfl rfl) (tupS (p5 rfl rfl)) (vV (show 7<=8 by decide))) (B4 rfl rfl rfl rfl) (vV (show 8<=8 by decide))))
theorem L0:aH [.tup [a,b,c,d,e,f,g,i],.int 7,x]=some (.tup [a,b,c,d,e,f,g,x]):=l5 (retS (k7 (k7 (B4 rfl rfl rfl rfl) (tupS (p5 rfl rfl)) (vV (show 8<=8 by decide))) (B4 rfl rfl rfl rfl) (vV (show 8<=8 by decide))))
end
theorem Nl(s:WS)(m:Nat):aH [s.d,.int 0,.int (m:Int)]=some {s with mode:=m}.d:=MT ..
theorem LV(s:WS)(c:Int):aH [s.d,.int 1,.int c]=some {s with clock:=c}.d:=Mb ..
theorem MW(s:WS)(h m:Int)(o:Bool):aH [s.d,.int 2,.tup [.int h,.int m,.bl o]]=some {s with ah:=h,am:=m,aon:=o}.d:=put2 ..
theorem LZ(s:WS)(m:Int)(r:Bool)(k:List Int):aH [s.d,.int 3,.tup [.int m,.bl r,.tup (k.map .int)]]=some {s with lm:=m,lr:=r,lk:=k}.d:=put3 ..
theorem Nu(s:WS)(m c l:Int)(r:Bool):aH [s.d,.int 4,.tup [.int m,.int c,.int l,.bl r]]=some {s with cm:=m,cs:=c,cl:=l,cr:=r}.d:=LX ..
theorem Nd(s:WS)(r:Int):aH [s.d,.int 5,.int r]=some {s with ring:=r}.d:=Mm ..
theorem K8(s:WS):aH [s.d,.int 6,.non]=some {s with held:=none}.d:=IN ..
theorem Ky(s:WS)(x:uS)(k:N7 Int):aH [s.d,.int 6,.tup [.str x.x,sF k]]=some {s with held:=some (x,k)}.d:=IN ..
theorem LR(s:WS)(x:uS):aH [s.d,.int 6,.tup [.str x.x,.non]]=some {s with held:=some (x,none)}.d:=IN ..
theorem LH(s:WS)(i:Int):aH [s.d,.int 7,.int i]=some {s with idle:=i}.d:=L0 ..
def jC:R->N7 Out:=
 (l6 (g4 0))
def cS:LD->OD:=via 1 1 jC
theorem nD(s:WS):cS [s.d]=some (deed .none s).d:=by simp[cS,via,jC,deed]
def jD:R->N7 Out:=
 (l6 (h9 aH (e8 (g4 0) (e8 (fun _=>some aV) (e8 (i6 r_ (i6 rL (i6 k8 (g4 0) (fun _=>some aV)) (kI 3600)) (kI 86400)) g5)))))
def cR:LD->OD:=via 1 1 jD
theorem nS(s:WS):cR [s.d]=some (deed .hour s).d:=by simp[-k8,cR,via,jD,aV,w1,LV,deed]
def gR:R->N7 Out:=
  (m6 (m8 (i6 k8 (g4 0) (fun _=>some aV)) (setAt 1))
  (m6 (m8 (i6 r_ (i6 rL (i6 r_ (g4 1) (kI 3600)) (kI 60)) (kI 3600)) (setAt 2))
  (l6 (h9 aH (e8 (g4 0) (e8 (fun _=>some aV) (e8 (i6 rL (i6 uW (g4 1) (i6 r_ (g4 1) (kI 3600))) (g4 2)) g5)))))))
def bU:LD->OD:=via 1 3 gR
theorem kA(s:WS):bU [s.d]=some (deed .minute s).d:=by simp[-k8,bU,via,gR,aV,w1,LV,deed]
def jE:R->N7 Out:=
 (l6 (h9 aH (e8 (g4 0) (e8 (fun _=>some aV) (e8 (i6 uW (i6 k8 (g4 0) (fun _=>some aV)) (i6 r_ (i6 k8 (g4 0) (fun _=>some aV)) (kI 60))) g5)))))
def cP:LD->OD:=via 1 1 jE
theorem nR(s:WS):cP [s.d]=some (deed .zero s).d:=by simp[-k8,cP,via,jE,aV,w1,LV,deed]
def eN:R->N7 Out:=
  (m6 (m8 (i6 k8 (g4 0) (fun _=>some a_)) (setAt 1))
  (l6 (h9 aH (e8 (g4 0) (e8 (fun _=>some a_) (e8 (rM (e8 (i6 r_ (i6 rL (i6 k8 (g4 1) (kI 0)) (kI 1)) (kI 24)) (e8 (i6 k8 (g4 1) (kI 1)) (e8 (i6 k8 (g4 1) (kI 2)) g5)))) g5))))))
def bi:LD->OD:=via 1 2 eN
theorem hU(s:WS):bi [s.d]=some (deed .ahour s).d:=by simp[-k8,bi,via,eN,a_,w2,Lg,KG,Le,MW,deed]
def dl:R->N7 Out:=
  (m6 (m8 (i6 k8 (g4 0) (fun _=>some a_)) (setAt 1))
  (l6 (h9 aH (e8 (g4 0) (e8 (fun _=>some a_) (e8 (rM (e8 (i6 k8 (g4 1) (kI 0)) (e8 (i6 r_ (i6 rL (i6 k8 (g4 1) (kI 1)) (kI 1)) (kI 60)) (e8 (i6 k8 (g4 1) (kI 2)) g5)))) g5))))))
def aW:LD->OD:=via 1 2 dl
theorem gh(s:WS):aW [s.d]=some (deed .aminute s).d:=by simp[-k8,aW,via,dl,a_,w2,Lg,KG,Le,MW,deed]
def fe:R->N7 Out:=
  (m6 (m8 (i6 k8 (g4 0) (fun _=>some a_)) (setAt 1))
  (l6 (h9 aH (e8 (g4 0) (e8 (fun _=>some a_) (e8 (rM (e8 (i6 k8 (g4 1) (kI 0)) (e8 (i6 k8 (g4 1) (kI 1)) (e8 (Cc (i6 k8 (g4 1) (kI 2))) g5)))) g5))))))
def bu:LD->OD:=via 1 2 fe
theorem ip(s:WS):bu [s.d]=some (deed .alarm s).d:=by simp[-k8,bu,via,fe,a_,w2,Lg,KG,Le,MW,deed]
def fw:R->N7 Out:=
  (m6 (m8 (i6 k8 (g4 0) (fun _=>some bS)) (setAt 1))
  (l6 (h9 aH (e8 (g4 0) (e8 (fun _=>some bS) (e8 (rM (e8 (i6 k8 (g4 1) (kI 0)) (e8 (Cc (i6 k8 (g4 1) (kI 1))) (e8 (i6 k8 (g4 1) (kI 2)) g5)))) g5))))))
def bC:LD->OD:=via 1 2 fw
theorem ja(s:WS):bC [s.d]=some (deed .run s).d:=by simp[-k8,bC,via,fw,bS,w3,KA,LW,K_,LZ,deed]
def mh:R->N7 Out:=
  (m6 (m8 (i6 k8 (g4 0) (fun _=>some bS)) (setAt 1))
  (m6 (xM (Cw (vK (i6 k8 (g4 1) (kI 1))))
  (l6 (h9 aH (e8 (g4 0) (e8 (fun _=>some bS) (e8 (rM (e8 (kI 0) (e8 (fun _=>some (.bl false)) (e8 (rM g5) g5)))) g5)))))
  sC)
  (m6 (xM (l7 J4 (h9 wB (e8 (i6 k8 (g4 1) (kI 2)) g5)) (fun _=>some eS))
  (l6 (g4 0))
  sC)
  (l6 (h9 aH (e8 (g4 0) (e8 (fun _=>some bS) (e8 (rM (e8 (i6 k8 (g4 1) (kI 0)) (e8 (fun _=>some (.bl true)) (e8 (i6 rL (i6 k8 (g4 1) (kI 2)) (rM (e8 (i6 k8 (g4 1) (kI 0)) g5))) g5)))) g5))))))))
def cU:LD->OD:=via 1 2 mh
theorem lP(s:WS)(h:s.lk.length<=4):cU [s.d]=some (deed .lap s).d:=by
 have t:vK (i6 k8 (g4 1) (kI 1)) [some s.d,some s.lapsD]=some s.lr:=BZ (k7 rfl rfl (LW s))
 have hl:wB [.tup (s.lk.map .int)]=some (.int s.lk.length):=by show some (D.int ((s.lk.map D.int).length:Int))=_;rw[OK]
 have hlen:h9 wB (e8 (i6 k8 (g4 1) (kI 2)) g5) [some s.d,some s.lapsD]=some (.int s.lk.length):=i7 (p5 (k7 rfl rfl (K_ s)) rfl) hl
 have a1:m8 (i6 k8 (g4 0) (fun _=>some bS)) (setAt 1) [some s.d,none]=some (.nx [some s.d,some s.lapsD]):=p4 (k7 rfl rfl (w3 s)) rfl
 cases hr:s.lr with
 | false =>
  have e:deed .lap s={s with lm:=0,lr:=false,lk:=[]}:=by
   show(if s.lr then _ else {s with lm:=0,lk:=[]})=_
   rw[Ov (by rw[hr];decide),<- hr]
  rw[hr] at t
  rw[e]
  exact l5 ((l9 a1).trans (uK ((yI (Gj (b:=false) t)).trans (retS (i7 (p5 rfl (p5 rfl (p5 (tupS (p5 rfl (p5 rfl (p5 (tupS rfl) rfl)))) rfl))) (LZ s 0 false []))))))
 | true =>
  rw[hr] at t
  have n1:xM (Cw (vK (i6 k8 (g4 1) (kI 1)))) (l6 (h9 aH (e8 (g4 0) (e8 (fun _=>some bS) (e8 (rM (e8 (kI 0) (e8 (fun _=>some (.bl false)) (e8 (rM g5) g5)))) g5))))) sC [some s.d,some s.lapsD]=some (.nx [some s.d,some s.lapsD]):=(xR (Gj (b:=true) t)).trans rfl
  by_cases h4:4<=s.lk.length
  ·have e:deed .lap s=s:=by
    show(if s.lr then (if 4<=s.lk.length then s else _) else _)=_
    rw[Of hr,Of h4]
   rw[e]
   exact l5 ((l9 a1).trans ((l9 n1).trans (uK ((yI (sA hlen rfl (dT (Int.ofNat_le.mpr h4)))).trans (retS rfl)))))
  ·have e:deed .lap s={s with lm:=s.lm,lr:=true,lk:=s.lk++[s.lm]}:=by
    show(if s.lr then (if 4<=s.lk.length then s else {s with lk:=s.lk++[s.lm]}) else _)=_
    rw[Of hr,Ov h4,<- hr]
   have ha:rL (.tup (s.lk.map .int)) (.tup [.int s.lm])=some (.tup ((s.lk++[s.lm]).map .int)):=by
    rw[List.map_append]
    exact vV (by rw[OK];show s.lk.length+1<=8;omega)
   rw[e]
   exact l5 ((l9 a1).trans ((l9 n1).trans ((l9 ((xR (sA hlen rfl (dF fun q=>h4 (Int.ofNat_le.mp q)))).trans rfl)).trans (retS (i7 (p5 rfl (p5 rfl (p5 (tupS (p5 (k7 rfl rfl (KA s)) (p5 rfl (p5 (k7 (k7 rfl rfl (K_ s)) (tupS (p5 (k7 rfl rfl (KA s)) rfl)) ha) rfl)))) rfl))) (LZ s s.lm true (s.lk++[s.lm])))))))
def kO:R->N7 Out:=
  (m6 (xM (vK (i6 k8 (i6 k8 (g4 0) (fun _=>some aQ)) (kI 3)))
  (l6 (g4 0))
  sC)
  (l6 (h9 aH (e8 (g4 0) (e8 (fun _=>some aQ) (e8 (rM (e8 (g4 1) (e8 (g4 2) (e8 (i6 rL (i6 v3 (kI 60) (g4 1)) (g4 2)) (e8 (fun _=>some (.bl false)) g5))))) g5))))))
def bM:LD->OD:=via 3 3 kO
theorem iP(s:WS)(m c:Int):bM [s.d,.int m,.int c]=some (wI s m c).d:=by
 cases hr:s.cr<;>simp[-k8,-v3,bM,via,kO,aQ,w4,MH,hr,wI,HP,Nu]
def dj:R->N7 Out:=
  (m6 (m8 (i6 k8 (g4 0) (fun _=>some aQ)) (setAt 1))
  (l6 (h9 bM (e8 (g4 0) (e8 (i6 r_ (i6 rL (i6 k8 (g4 1) (kI 0)) (kI 1)) (kI 60)) (e8 (i6 k8 (g4 1) (kI 1)) g5))))))
def aU:LD->OD:=via 1 2 dj
theorem fQ(s:WS):aU [s.d]=some (deed .cminute s).d:=by simp[-k8,aU,via,dj,aQ,w4,Kn,Ke,iP,deed]
def di:R->N7 Out:=
  (m6 (m8 (i6 k8 (g4 0) (fun _=>some aQ)) (setAt 1))
  (l6 (h9 bM (e8 (g4 0) (e8 (i6 k8 (g4 1) (kI 0)) (e8 (i6 r_ (i6 rL (i6 k8 (g4 1) (kI 1)) (kI 1)) (kI 60)) g5))))))
def aT:LD->OD:=via 1 2 di
theorem fZ(s:WS):aT [s.d]=some (deed .csecond s).d:=by simp[-k8,aT,via,di,aQ,w4,Kn,Ke,iP,deed]
def kY:R->N7 Out:=
  (m6 (m8 (i6 k8 (g4 0) (fun _=>some aQ)) (setAt 1))
  (l6 (h9 bM (e8 (g4 0) (e8 (i6 k8 (g4 1) (kI 0)) (e8 (i6 k8 (g4 1) (kI 1)) g5))))))
def dG:LD->OD:=via 1 2 kY
theorem og(s:WS):dG [s.d]=some (deed .full s).d:=by simp[-k8,dG,via,kY,aQ,w4,Kn,Ke,iP,deed]
def im:R->N7 Out:=
  (m6 (m8 (i6 k8 (g4 0) (fun _=>some aQ)) (setAt 1))
  (m6 (m8 (AN (Cc (i6 k8 (g4 1) (kI 3))) (Bm (l7 Cq (i6 k8 (g4 1) (kI 2)) (kI 0)))) (setAt 2))
  (l6 (h9 aH (e8 (g4 0) (e8 (fun _=>some aQ) (e8 (rM (e8 (i6 k8 (g4 1) (kI 0)) (e8 (i6 k8 (g4 1) (kI 1)) (e8 (i6 k8 (g4 1) (kI 2)) (e8 (g4 2) g5))))) g5)))))))
def bG:LD->OD:=via 1 3 im
theorem iO(s:WS):bG [s.d]=some (deed .count s).d:=by
 have q:∀r:Bool,AN (Cc (i6 k8 (g4 1) (kI 3))) (Bm (l7 Cq (i6 k8 (g4 1) (kI 2)) (kI 0))) [some s.d,some (.tup [.int s.cm,.int s.cs,.int s.cl,.bl r]),none]=some (.bl (!r&&decide (0<s.cl))):=by
  intro r
  cases r
  ·exact J3 rfl (Gk (sA (k7 rfl rfl rfl) rfl rfl))
  ·exact DZ rfl
 exact l5 ((l9 (p4 (k7 rfl rfl (w4 s)) rfl)).trans ((l9 (p4 (q s.cr) rfl)).trans (retS (i7 (p5 rfl (p5 rfl (p5 (tupS (p5 (k7 rfl rfl (Kn s)) (p5 (k7 rfl rfl (Ke s)) (p5 (k7 rfl rfl (LF s)) rfl)))) rfl))) (Nu s s.cm s.cs s.cl _)))))
def wt:List (Str×(LD->OD)):=[(oS "none",cS),(oS "hour",cR),(oS "minute",bU),(oS "zero",cP),(oS "ahour",bi),(oS "aminute",aW),(oS "alarm",bu),(oS "run",bC),(oS "lap",cU),(oS "cminute",aU),(oS "csecond",aT),(oS "full",dG),(oS "count",bG)]
def jK:R->N7 Out:=
  (m6 (m8 (i6 k8 (i6 k8 (i6 k8 (g4 0) (kI 2)) (i6 k8 (g4 1) (fun _=>some bL))) (kI 2)) (setAt 3))
  (m6 (m8 (i6 k8 (g4 3) (vC (Fx cQ) (g4 2))) (setAt 4))
  (J0 5 wt (i6 k8 (g4 4) (kI 0)) (fun G_=>(l6 (h9 aH (e8 (h9 G_ (e8 (g4 1) g5)) (e8 (fun _=>some bL) (e8 (i6 k8 (g4 4) (kI 1)) g5)))))))))
def bx:LD->OD:=via 3 6 jK
theorem pW(d:vZ)(s:WS)(h:s.lk.length<=4):∃F,wt.lookup d.x=some F/\F [s.d]=some (deed d s).d:=by
 cases d
 ·exact⟨_,rfl,nD s⟩
 ·exact⟨_,rfl,nS s⟩
 ·exact⟨_,rfl,kA s⟩
 ·exact⟨_,rfl,nR s⟩
 ·exact⟨_,rfl,hU s⟩
 ·exact⟨_,rfl,gh s⟩
 ·exact⟨_,rfl,ip s⟩
 ·exact⟨_,rfl,ja s⟩
 ·exact⟨_,rfl,lP s h⟩
 ·exact⟨_,rfl,fQ s⟩
 ·exact⟨_,rfl,fZ s⟩
 ·exact⟨_,rfl,og s⟩
 ·exact⟨_,rfl,iO s⟩
theorem Lc(x:uS):Fx cQ (.str x.x)=some (.int (x.ix:Int)):=by cases x<;>rfl
theorem KM(x:uS):Fx cQ (.str x.X)=some (.int ((x.ix+3:Nat):Int)):=by cases x<;>rfl
theorem NM{i:Nat}{tab:List (Str×(LD->OD))}{f:R->OD}{g:(LD->OD)->R->N7 Out}{ρ:R}{z:Str}{F:LD->OD}{o:N7 Out}(h1:f ρ=some (.str z))(h2:tab.lookup z=some F)(hi:i<ρ.length)(h3:g F (ρ.set i none)=o):J0 i tab f g ρ=o:=by
 unfold J0
 rw[h1]
 show(tab.lookup z).bind _=_
 rw[h2]
 show(if i<ρ.length then g F (ρ.set i none) else none)=_
 rw[Of hi,h3]
theorem ga{b:Bk}{s:WS}(ok:b.Ok)(w:s.Wk b){p:Str}{i:Nat}(hi:i<6)(hp:Fx cQ (.str p)=some (.int (i:Int))):bx [b.d,s.d,.str p]=some (press b s i).d:=by
 have hm:=ky b w.mode
 have h6:=(ok.all _ (oK b w.mode)).six
 have hr:=qL (b.modes.getD s.mode default) (i:=i) (by rw[h6];exact hi)
 obtain⟨F,hF,hs⟩:=pW (b.row s.mode i).1 s w.lk
 unfold Bk.row at hF hs
 unfold press Bk.row
 generalize (b.modes.getD s.mode default)=md at *
 generalize (md.rows.getD i (vZ.none,0))=rw_ at *
 exact l5 ((l9 (p4 (k7 (k7 (k7 rfl rfl (b2 b)) (k7 rfl rfl (w0 s)) hm) rfl (m2 md)) rfl)).trans ((l9 (p4 (k7 rfl (B3 rfl hp) hr) rfl)).trans
  (NM (k7 rfl rfl (r0 rw_)) hF (by simp) (retS (i7 (p5 (i7 rfl hs) (p5 rfl (p5 (k7 rfl rfl (r1 rw_)) rfl))) (Nl _ _))))))
def pq:R->N7 Out:=
  (m6 (m8 (i6 k8 (g4 1) (fun _=>some bg)) (setAt 2))
  (m6 (xM (l7 x4 (g4 2) (fun _=>some .non))
  (l6 (h9 aH (e8 (g4 1) (e8 (fun _=>some bL) (e8 (kI 0) g5)))))
  sC)
  (l6 (h9 bx (e8 (g4 0) (e8 (h9 aH (e8 (g4 1) (e8 (fun _=>some bg) (e8 (rM (e8 (i6 k8 (g4 2) (kI 0)) (e8 (fun _=>some .non) g5))) g5)))) (e8 (vC ML (i6 k8 (g4 2) (kI 0))) g5)))))))
def fg:LD->OD:=via 2 3 pq
theorem MQ(x:uS):ML (.str x.x)=some (.str x.X):=by cases x<;>rfl
theorem BG{b:Bk}{s:WS}(h:s.held=none):turned b s={s with mode:=0}:=by
 unfold turned
 split
 ·rfl
 ·rename_i e;rw[h] at e;cases e
theorem BA{b:Bk}{s:WS}{x:uS}{k:N7 Int}(h:s.held=some (x,k)):turned b s=press b {s with held:=some (x,none)} (x.ix+3):=by
 unfold turned
 split
 ·rename_i e;rw[h] at e;cases e
 ·rename_i e;rw[h] at e;cases e;rfl
theorem nY{b:Bk}{s:WS}(ok:b.Ok)(w:s.Wk b):fg [b.d,s.d]=some (turned b s).d:=by
 have e6:=w6 s
 rcases hs:s.held with _ | ⟨x,k⟩<;>rw[hs] at e6
 ·rw[BG hs]
  exact l5 ((l9 (p4 (k7 rfl rfl e6) rfl)).trans (uK ((yI rfl).trans (retS (i7 rfl (Nl s 0))))))
 ·have e:=ga (s:={s with held:=some (x,none)}) ok {w with} x.ix3 (KM x)
  rw[BA hs]
  exact l5 ((l9 (p4 (k7 rfl rfl e6) rfl)).trans ((l9 (xR rfl)).trans (retS (i7 (p5 rfl (p5 (i7 (p5 rfl (p5 rfl (p5 (tupS (p5 (k7 rfl rfl (h0 x k)) rfl)) rfl))) (LR s x)) (p5 (B3 (k7 rfl rfl (h0 x k)) (MQ x)) rfl))) e))))
def fy:R->N7 Out:=
 (l6 (h9 fg (e8 (g4 0) (e8 (h9 cg (e8 (g4 0) (e8 (g4 1) (e8 (h9 bJ (e8 (g4 0) (e8 (g4 1) g5))) g5)))) g5))))
def bB:LD->OD:=via 2 2 fy
theorem oE{b:Bk}{s:WS}{t:Int}(ok:b.Ok)(w:s.Wk b)(h:rY b s=some t):bB [b.d,s.d]=some (behind b s t).d:=by
 have e1:=gO w
 rw[h] at e1
 have ht:=vd h
 have e2:=gH (s:=s) t ok.back0
 have e3:=nY ok (w.cnt (n:=t) (by omega))
 simp only[sF] at e1
 simp[bB,via,fy,e1,e2,e3,behind]
def lz:R->N7 Out:=
  (m6 (m8 (h9 bJ (e8 (g4 0) (e8 (g4 1) g5))) (setAt 3))
  (m6 (xM (BW (l7 x4 (g4 3) (fun _=>some .non)) (l7 Cq (g4 3) (g4 2)))
  (l6 (GY (e8 (rM (e8 (kI 0) (e8 (g4 1) (e8 (g4 2) g5)))) g5)))
  sC)
  (l6 (GY (e8 (rM (e8 (kI 0) (e8 (g4 1) (e8 (g4 3) g5)))) (e8 (rM (e8 (g4 3) (e8 (h9 bB (e8 (g4 0) (e8 (g4 1) g5))) (e8 (i6 uW (g4 2) (g4 3)) g5)))) g5))))))
def ba:LD->OD:=via 3 4 lz
def tH(b:Bk)(s:WS)(n:Int):LD:=match rY b s with
 | none=>[.tup [.int 0,s.d,.int n]]
 | some t=>if n<t then [.tup [.int 0,s.d,.int n]] else [.tup [.int 0,s.d,.int t],.tup [.int t,(behind b s t).d,.int (n - t)]]
theorem gS{b:Bk}{s:WS}(n:Int)(ok:b.Ok)(w:s.Wk b):ba [b.d,s.d,.int n]=some (.lst (tH b s n)):=by
 have e1:=gO w
 unfold tH
 cases h:rY b s with
 | none =>
  rw[h] at e1
  exact l5 ((l9 (p4 (i7 rfl e1) rfl)).trans (uK ((yI (L1 rfl)).trans (retS rfl))))
 | some t =>
  have e2:=oE ok w h
  rw[h] at e1
  dsimp only
  by_cases hn:n<t
  ·rw[Of hn]
   exact l5 ((l9 (p4 (i7 rfl e1) rfl)).trans (uK ((yI (J1 rfl (sA rfl rfl (dT hn)))).trans (retS rfl))))
  ·rw[Ov hn]
   exact l5 ((l9 (p4 (i7 rfl e1) rfl)).trans ((l9 (xR (J1 rfl (sA rfl rfl (dF hn))))).trans (retS (Ms (p5 rfl (p5 (tupS (p5 rfl (p5 (i7 rfl e2) rfl))) rfl))))))
def oI:R->N7 Out:=
  (m6 (m8 (i6 k8 (h9 ba (e8 (g4 0) (e8 (g4 1) (e8 (g4 2) g5)))) (vC Lb (kI 1))) (setAt 3))
  (l6 (h9 cg (e8 (g4 0) (e8 (i6 k8 (g4 3) (kI 1)) (e8 (i6 k8 (g4 3) (kI 2)) g5))))))
def fq:LD->OD:=via 3 4 oI
theorem oU{b:Bk}{s:WS}(n:Int)(ok:b.Ok)(w:s.Wk b):fq [b.d,s.d,.int n]=some (ticked b s n).d:=by
 have e1:=gS n ok w
 unfold tH at e1
 unfold ticked
 have e2:=gH (s:=s) n ok.back0
 cases h:rY b s with
 | none =>
  rw[h] at e1
  exact l5 ((l9 (p4 (k7 (i7 rfl e1) rfl rfl) rfl)).trans (retS (i7 rfl e2)))
 | some t =>
  rw[h] at e1
  dsimp only at e1 ⊢
  have e3:=gH (s:=behind b s t) (n - t) ok.back0
  by_cases hn:n<t
  ·rw[Of hn] at e1 ⊢
   exact l5 ((l9 (p4 (k7 (i7 rfl e1) rfl rfl) rfl)).trans (retS (i7 rfl e2)))
  ·rw[Ov hn] at e1 ⊢
   exact l5 ((l9 (p4 (k7 (i7 rfl e1) rfl rfl) rfl)).trans (retS (i7 rfl e3)))
def pz:R->N7 Out:=
  (m6 (xM (l7 vF (i6 k8 (g4 0) (fun _=>some bg)) (fun _=>some .non))
  (l6 (g4 0))
  sC)
  (m6 (m8 (Ba (l7 Cq (i6 k8 (g4 0) (fun _=>some ek)) (kI 0)) (fun _=>some .non) (kI 0)) (setAt 2))
  (l6 (h9 aH (e8 (h9 aH (e8 (h9 aH (e8 (g4 0) (e8 (fun _=>some ek) (e8 (kI 0) g5)))) (e8 (fun _=>some bg) (e8 (rM (e8 (g4 1) (e8 (g4 2) g5))) g5)))) (e8 (fun _=>some cW) (e8 (kI 0) g5)))))))
def eV:LD->OD:=via 2 3 pz
theorem pG(s:WS)(x:uS):eV [s.d,.str x.x]=some (pushed s x).d:=by
 have e6:=w6 s
 have e5:=w5 s
 unfold pushed
 cases hh:s.held with
 | some v =>
  rw[hh] at e6
  exact l5 (uK ((yI (sA (k7 rfl rfl e6) rfl rfl)).trans (retS rfl)))
 | none =>
  rw[hh] at e6
  by_cases hr:0<s.ring
  ·have z:=Ky {s with ring:=0} x none
   simp only[Option.isSome_none,Bool.false_eq_true,if_false,Of hr]
   exact l5 ((l9 (xR (sA (k7 rfl rfl e6) rfl rfl))).trans ((l9 (p4 (DB (sA (k7 rfl rfl e5) rfl (dT hr)) rfl) rfl)).trans (retS (i7 (p5 (i7 (p5 (i7 rfl (Nd s 0)) rfl) z) rfl) (LH _ 0)))))
  ·have z:=Ky {s with ring:=0} x (some 0)
   simp only[Option.isSome_none,Bool.false_eq_true,if_false,Ov hr]
   exact l5 ((l9 (xR (sA (k7 rfl rfl e6) rfl rfl))).trans ((l9 (p4 (EC (sA (k7 rfl rfl e5) rfl (dF hr)) rfl) rfl)).trans (retS (i7 (p5 (i7 (p5 (i7 rfl (Nd s 0)) rfl) z) rfl) (LH _ 0)))))
def j_:R->N7 Out:=
 (l6 (AN (Bm (l7 vF (i6 k8 (g4 0) (fun _=>some bg)) (fun _=>some .non))) (Bm (l7 xK (i6 k8 (i6 k8 (g4 0) (fun _=>some bg)) (kI 0)) (g4 1)))))
def bv:LD->OD:=via 2 2 j_
theorem Iu(x y:uS):xK (.str x.x) (.str y.x)=some (decide (x=y)):=by cases x<;>cases y<;>rfl
theorem fT(s:WS)(x:uS):bv [s.d,.str x.x]=some (.bl (match s.held with | some (y,_)=>decide (y=x) | none=>false)):=by
 have e6:=w6 s
 rcases hs:s.held with _ | ⟨y,k⟩<;>rw[hs] at e6
 ·exact l5 (retS (DZ (Gk (sA (k7 rfl rfl e6) rfl rfl))))
 ·exact l5 (retS (J3 (Gk (sA (k7 rfl rfl e6) rfl rfl)) (Gk (sA (k7 (k7 rfl rfl e6) rfl (h0 y k)) rfl (Iu y x)))))
def lQ:R->N7 Out:=
 (l6 (AN (h9 bv (e8 (g4 0) (e8 (g4 1) g5))) (Bm (l7 vF (i6 k8 (i6 k8 (g4 0) (fun _=>some bg)) (kI 1)) (fun _=>some .non)))))
def db:LD->OD:=via 2 2 lQ
theorem lJ(s:WS)(x:uS):db [s.d,.str x.x]=some (.bl (match s.held with | some (y,k)=>decide (y=x)&&k.isSome | none=>false)):=by
 have e:=fT s x
 have e6:=w6 s
 rcases hs:s.held with _ | ⟨y,k⟩<;>rw[hs] at e e6
 ·exact l5 (retS (DZ (i7 rfl e)))
 ·by_cases hy:y=x
  ·simp only[hy,decide_true,Bool.true_and] at e ⊢
   exact l5 (retS (J3 (i7 rfl e) (Gk (sA (k7 (k7 rfl rfl e6) rfl (h1 y k)) rfl (G6 k)))))
  ·simp only[hy,decide_false,Bool.false_and] at e ⊢
   exact l5 (retS (DZ (i7 rfl e)))
def pH:R->N7 Out:=
  (m6 (xM (Cw (vK (h9 bv (e8 (g4 1) (e8 (g4 2) g5)))))
  (l6 (g4 1))
  sC)
  (m6 (xM (vK (h9 db (e8 (g4 1) (e8 (g4 2) g5))))
  (m8 (h9 bx (e8 (g4 0) (e8 (g4 1) (e8 (g4 2) g5)))) (setAt 1))
  sC)
  (l6 (h9 aH (e8 (h9 aH (e8 (g4 1) (e8 (fun _=>some bg) (e8 (fun _=>some .non) g5)))) (e8 (fun _=>some cW) (e8 (kI 0) g5)))))))
def eO:LD->OD:=via 3 3 pH
theorem oJ{b:Bk}{s:WS}(ok:b.Ok)(w:s.Wk b)(x:uS):eO [b.d,s.d,.str x.x]=some (letGo b s x).d:=by
 have e1:=fT s x
 have e2:=lJ s x
 have e3:=ga ok w x.ix6 (Lc x)
 unfold letGo
 rcases hs:s.held with _ | ⟨y,k⟩<;>rw[hs] at e1 e2
 ·exact l5 (uK ((yI (Gj (BZ (i7 rfl e1)))).trans (retS rfl)))
 ·by_cases hy:y=x
  ·subst hy
   simp only[decide_true,Bool.true_and] at e1 e2
   dsimp only
   rw[Of rfl]
   cases k with
   | none=>exact l5 ((l9 (xR (Gj (BZ (i7 rfl e1))))).trans ((l9 (xR (BZ (i7 rfl e2)))).trans (retS (i7 (p5 (i7 rfl (K8 s)) rfl) (LH _ 0)))))
   | some j=>exact l5 ((l9 (xR (Gj (BZ (i7 rfl e1))))).trans ((l9 ((yI (BZ (i7 rfl e2))).trans (p4 (i7 rfl e3) rfl))).trans (retS (i7 (p5 (i7 rfl (K8 _)) rfl) (LH _ 0)))))
  ·dsimp only at e1 ⊢
   rw[OO hy] at e1
   rw[Ov hy]
   exact l5 (uK ((yI (Gj (BZ (i7 rfl e1)))).trans (retS rfl)))
def qT:R->N7 Out:=
  (m6 (xM (l7 xK (i6 k8 (g4 2) (kI 0)) (kS "down"))
  (l6 (h9 eV (e8 (g4 1) (e8 (i6 k8 (g4 2) (kI 1)) g5))))
  sC)
  (m6 (xM (l7 xK (i6 k8 (g4 2) (kI 0)) (kS "up"))
  (l6 (h9 eO (e8 (g4 0) (e8 (g4 1) (e8 (i6 k8 (g4 2) (kI 1)) g5)))))
  sC)
  (l6 (h9 fq (e8 (g4 0) (e8 (g4 1) (e8 (i6 k8 (g4 2) (kI 1)) g5)))))))
def gz:LD->OD:=via 3 3 qT
theorem Jg:xK (.str (oS "down")) (.str (oS "down"))=some true:=rfl
theorem JC:xK (.str (oS "up")) (.str (oS "down"))=some false:=rfl
theorem Ir:xK (.str (oS "ticks")) (.str (oS "down"))=some false:=rfl
theorem Js:xK (.str (oS "up")) (.str (oS "up"))=some true:=rfl
theorem JK:xK (.str (oS "ticks")) (.str (oS "up"))=some false:=rfl
theorem qY{b:Bk}{s:WS}(ok:b.Ok)(w:s.Wk b)(e:Ev):gz [b.d,s.d,e.d]=some (gone b s e).d:=by
 cases e with
 | down x=>exact l5 (uK ((yI (sA rfl rfl Jg)).trans (retS (i7 rfl (pG s x)))))
 | up x=>exact l5 ((l9 (xR (sA rfl rfl JC))).trans (uK ((yI (sA rfl rfl Js)).trans (retS (i7 rfl (oJ ok w x))))))
 | ticks n=>exact l5 ((l9 (xR (sA rfl rfl Ir))).trans ((l9 (xR (sA rfl rfl JK))).trans (retS (i7 rfl (oU n ok w)))))
def ku:R->N7 Out:=
  (m6 (m8 (h9 aS (e8 (g4 0) g5)) (setAt 2))
  (m6 (m8 (h9 aZ (e8 (g4 0) g5)) (setAt 3))
  (m6 (m8 (Ba (BW (l7 x4 (g4 2) (fun _=>some .non)) (l7 Cq (g4 2) (g4 1))) (kI 0) (i6 rL (i6 uq (i6 uW (g4 1) (g4 2)) (fun _=>some eM)) (kI 1))) (setAt 4))
  (m6 (m8 (Ba (BW (l7 x4 (g4 3) (fun _=>some .non)) (BW (l7 Cq (g4 3) (g4 1)) (l7 xZ (g4 3) (g4 2)))) (kI 0) (kI 1)) (setAt 5))
  (l6 (i6 rL (g4 4) (g4 5)))))))
def bj:LD->OD:=via 2 6 ku
def Kk(n:Int)(o:N7 Int):Int:=match o with
 | some a=>if n<a then 0 else (n - a) / 86400+1
 | none=>0
def K4(n:Int)(o p:N7 Int):Int:=match p with
 | some c=>if n<c then 0 else if o=some c then 0 else 1
 | none=>0
theorem FH{c d:R->N7 Bool}{ρ:R}(h1:c ρ=some true):BW c d ρ=some true:=by simp[h1]
theorem Do{c d:R->N7 Bool}{ρ:R}{b:Bool}(h1:c ρ=some false)(h2:d ρ=some b):BW c d ρ=some b:=by simp[h1,h2]
theorem oX(c:Int)(o:N7 Int):xZ (.int c) (sF o)=some (decide (o=some c)):=by
 cases o with
 | none=>rfl
 | some a =>
  show some (c==a)=_
  by_cases h:a=c
  ·subst h;simp
  ·have h1:¬ c=a:=fun z=>h z.symm
   have h2:¬ (some a=some c):=fun z=>h (Ow z)
   rw[OO h2,OP.mpr h1]
theorem NJ(n:Int)(a:N7 Int)(r:R)(x:OD):(Ba (BW (l7 x4 (g4 2) (fun _=>some .non)) (l7 Cq (g4 2) (g4 1))) (kI 0) (i6 rL (i6 uq (i6 uW (g4 1) (g4 2)) (fun _=>some eM)) (kI 1))) (x::some (.int n)::some (sF a)::r)=some (.int (Kk n a)):=by
 cases a with
 | none=>exact DB (FH (sA rfl rfl rfl)) rfl
 | some a =>
  show _=some (D.int (if n<a then 0 else (n - a) / 86400+1))
  by_cases h:n<a
  ·rw[Of h]
   exact DB (Do (sA rfl rfl rfl) (sA rfl rfl (dT h))) rfl
  ·rw[Ov h]
   exact EC (Mh (sA rfl rfl rfl) (sA rfl rfl (dF h))) (k7 (k7 (k7 rfl rfl rfl) rfl rfl) rfl rfl)
theorem NG(n:Int)(a c:N7 Int)(r:R)(x:OD):(Ba (BW (l7 x4 (g4 3) (fun _=>some .non)) (BW (l7 Cq (g4 3) (g4 1)) (l7 xZ (g4 3) (g4 2)))) (kI 0) (kI 1)) (x::some (.int n)::some (sF a)::some (sF c)::r)=some (.int (K4 n a c)):=by
 cases c with
 | none=>exact DB (FH (sA rfl rfl rfl)) rfl
 | some c =>
  show _=some (D.int (if n<c then 0 else if a=some c then 0 else 1))
  by_cases h:n<c
  ·rw[Of h]
   exact DB (Do (sA rfl rfl rfl) (FH (sA rfl rfl (dT h)))) rfl
  ·rw[Ov h]
   by_cases h2:a=some c
   ·rw[Of h2]
    exact DB (Do (sA rfl rfl rfl) (Do (sA rfl rfl (dF h)) (sA rfl rfl ((oX c a).trans (by rw[Pa h2]))))) rfl
   ·rw[Ov h2]
    exact EC (Mh (sA rfl rfl rfl) (Mh (sA rfl rfl (dF h)) (sA rfl rfl ((oX c a).trans (by rw[OO h2]))))) rfl
theorem iX(s:WS)(n:Int):bj [s.d,.int n]=some (.int (Kk n (n8 s)+K4 n (n8 s) (sg s))):=
 l5 ((l9 (p4 (i7 rfl (fW s)) rfl)).trans ((l9 (p4 (i7 rfl (gc s)) rfl)).trans ((l9 (p4 (NJ n _ _ _) rfl)).trans ((l9 (p4 (NG n _ _ _ _) rfl)).trans (retS (k7 rfl rfl rfl))))))
def H9(s:WS)(n:Int):Int:=Kk n (n8 s)+K4 n (n8 s) (sg s)
theorem xP{b:Bk}{s:WS}{n:Int}(w:s.Wk b)(h0:0<=n)(hn:n<259200):0<=H9 s n/\H9 s n<=50:=by
 have ha:∀a,n8 s=some a->1<=a/\a<=86400:=fun a h=>by
  unfold n8 at h
  split at h
  ·cases h;omega
  ·cases h
 have q1:0<=Kk n (n8 s)/\Kk n (n8 s)<=10:=by
  cases haa:n8 s with
  | none=>exact⟨Int.le_refl _,by show(0:Int)<=10;decide⟩
  | some a =>
   have ⟨h1,h2⟩:=ha a haa
   show 0<=(if n<a then (0:Int) else (n - a) / 86400+1)/\(if n<a then (0:Int) else (n - a) / 86400+1)<=10
   split<;>omega
 have q2:0<=K4 n (n8 s) (sg s)/\K4 n (n8 s) (sg s)<=1:=by
  cases sg s with
  | none=>exact⟨Int.le_refl _,by show(0:Int)<=1;decide⟩
  | some c =>
   show 0<=(if n<c then (0:Int) else if n8 s=some c then 0 else 1)/\(if n<c then (0:Int) else if n8 s=some c then 0 else 1)<=1
   split
   ·omega
   ·split<;>omega
 unfold H9
 omega
def gE:R->N7 Out:=
 (l6 (h9 Gq (e8 (JN 1 (DC (h9 ba (e8 (g4 0) (e8 (g4 1) (e8 (g4 2) g5))))) (setAt 0) Ay (h9 bj (e8 (i6 k8 (g4 0) (kI 1)) (e8 (i6 k8 (g4 0) (kI 2)) g5)))) g5)))
def br:LD->OD:=via 3 3 gE
theorem HV{i:Int}(h0:0<=i)(h1:i<=100):Gq [.lst [.int i]]=some (.int i):=by
 show(if 1<=1000/\[i].all _=true then some (D.int [i].sum) else none)=_
 rw[Of ⟨by decide,by simp;omega⟩]
 simp
theorem Lk{i j:Int}(h0:0<=i)(h1:i<=100)(h2:0<=j)(h3:j<=100):Gq [.lst [.int i,.int j]]=some (.int (i+j)):=by
 show(if 2<=1000/\[i,j].all _=true then some (D.int [i,j].sum) else none)=_
 rw[Of ⟨by decide,by simp;omega⟩]
 simp
theorem Bj{st:D->R->N7 R}{e:R->OD}{ρ ρ1:R}{d x:D}{ds xs:LD}(h1:st d ρ=some ρ1)(h2:e ρ1=some x)(h3:xH st Ay e ds ρ=some xs):xH st Ay e (d::ds) ρ=some (x::xs):=by simp[xH,h1,h2,h3]
def JZ(b:Bk)(s:WS)(n:Int):Int:=match rY b s with
 | none=>H9 s n
 | some t=>if n<t then H9 s n else H9 s t+H9 (behind b s t) (n - t)
theorem rz{b:Bk}{s:WS}{n:Int}(ok:b.Ok)(w:s.Wk b)(h0:0<=n)(hn:n<259200):br [b.d,s.d,.int n]=some (.int (JZ b s n)):=by
 have e1:=gS n ok w
 have z:2<=sizeLine:=by decide
 have q:DC (h9 ba (e8 (g4 0) (e8 (g4 1) (e8 (g4 2) g5)))) [some b.d,some s.d,some (.int n)]=some (tH b s n):=by
  show(h9 ba _ _).bind _=_
  rw[i7 rfl e1];rfl
 have one:∀(k:Int) (s':WS) (m:Int),h9 bj (e8 (i6 k8 (g4 0) (kI 1)) (e8 (i6 k8 (g4 0) (kI 2)) g5)) [some (.tup [.int k,s'.d,.int m]),some b.d,some s.d,some (.int n)]=some (.int (H9 s' m)):=fun k s' m =>
  i7 (p5 (k7 rfl rfl rfl) (p5 (k7 rfl rfl rfl) rfl)) (iX s' m)
 have lc:∀(l:LD),(tH b s n).length<=2->xH (setAt 0) Ay (h9 bj (e8 (i6 k8 (g4 0) (kI 1)) (e8 (i6 k8 (g4 0) (kI 2)) g5))) (tH b s n) [none,some b.d,some s.d,some (.int n)]=some l ->
   JN 1 (DC (h9 ba (e8 (g4 0) (e8 (g4 1) (e8 (g4 2) g5))))) (setAt 0) Ay (h9 bj (e8 (i6 k8 (g4 0) (kI 1)) (e8 (i6 k8 (g4 0) (kI 2)) g5))) [some b.d,some s.d,some (.int n)]=some (.lst l):=fun l hl hc=>by
  unfold JN
  rw[q,Oc,Of (by omega)]
  exact congrArg (Option.map D.lst) hc
 have bs:=xP w h0 hn
 unfold tH at lc
 unfold JZ
 cases ht:rY b s with
 | none =>
  rw[ht] at lc
  exact l5 (retS (i7 (p5 (lc _ (by show 1<=2;decide) (Bj rfl (one _ _ _) rfl)) rfl) (HV bs.1 (by omega))))
 | some t =>
  rw[ht] at lc
  dsimp only at lc ⊢
  have hp:=vd ht
  by_cases h:n<t
  ·rw[Of h] at lc ⊢
   exact l5 (retS (i7 (p5 (lc _ (by show 1<=2;decide) (Bj rfl (one _ _ _) rfl)) rfl) (HV bs.1 (by omega))))
  ·rw[Ov h] at lc ⊢
   have wb:(behind b s t).Wk b:=(w.cnt (n:=t) (by omega)).trn ok
   have b1:=xP (n:=t) w (by omega) (by omega)
   have b2:=xP (n:=n - t) wb (by omega) (by omega)
   exact l5 (retS (i7 (p5 (lc _ (by show 2<=2;decide) (Bj rfl (one _ _ _) (Bj rfl (one _ _ _) rfl))) rfl) (Lk b1.1 (by omega) b2.1 (by omega))))
def lY:R->N7 Out:=
 (l6 (Ba (l7 xK (i6 k8 (g4 2) (kI 0)) (kS "ticks")) (h9 br (e8 (g4 0) (e8 (g4 1) (e8 (i6 k8 (g4 2) (kI 1)) g5)))) (kI 0)))
def cu:LD->OD:=via 3 3 lY
def wj(b:Bk)(s:WS):Ev->Int
 | .ticks n=>JZ b s n
 | _=>0
def CT:Ev->Prop
 | .ticks n=>1<=n/\n<259200
 | _=>True
theorem lS{b:Bk}{s:WS}(ok:b.Ok)(w:s.Wk b)(e:Ev)(h:CT e):cu [b.d,s.d,e.d]=some (.int (wj b s e)):=by
 cases e with
 | ticks n=>exact l5 (retS (DB (sA (k7 rfl rfl rfl) rfl rfl) (i7 (p5 rfl (p5 rfl (p5 (k7 rfl rfl rfl) rfl))) (rz ok w (by have:=h.1;omega) h.2))))
 | down x=>exact l5 (retS (EC (sA (k7 rfl rfl rfl) rfl rfl) rfl))
 | up x=>exact l5 (retS (EC (sA (k7 rfl rfl rfl) rfl rfl) rfl))
def cX(C:Nat):MU:=
  (tm (sH (m8 (h9 gz (e8 (vC (sZ C (oS "book")) (g4 0)) (e8 (vC (sZ C (oS "present")) (g4 0)) (e8 (g4 1) g5)))) (setAt 2)))
  (tm (sH (m8 (i6 rL (vC (sZ C (oS "rung")) (g4 0)) (h9 cu (e8 (vC (sZ C (oS "book")) (g4 0)) (e8 (vC (sZ C (oS "present")) (g4 0)) (e8 (g4 1) g5))))) (setAt 3)))
  (tm (G4 0 C (oS "past") (rM (e8 (g4 1) (e8 (vC (sZ C (oS "present")) (g4 0)) (e8 (vC (sZ C (oS "rung")) (g4 0)) g5)))))
  (tm (uT 0 C (oS "present") (g4 2))
  (uT 0 C (oS "rung") (g4 3))))))
def aO(C:Nat):LD->N7 (D×D):=yq 2 4 0 (cX C)
def Wo(C a l:Nat)(b:Bk)(s:WS)(r:Int)(p:LD):D:=.obj (C+2) a [oS "book",oS "present",oS "rung",oS "past"] [b.d,s.d,.int r,.obj 0 l [] p]
theorem dI{α:Type}{f:α->D}(h:∀x,sk (f x)=true):∀l:List α,n6 (l.map f)=true
 | []=>rfl
 | x::l=>by show(sk (f x)&&n6 (l.map f))=true;rw[h x,dI h l];rfl
theorem pO(r:vZ×Nat):sk (yW r)=true:=rfl
theorem qU(m:Md):sk m.d=true:=by
 show(true&&(true&&(n6 (m.rows.map yW)&&true)))=true
 rw[dI pO];rfl
theorem fB(b:Bk):sk b.d=true:=by
 show(true&&(true&&(n6 (b.modes.map Md.d)&&true)))=true
 rw[dI qU];rfl
theorem df(s:WS):sk s.d=true:=bE (lX s)
theorem lM(e:Ev):sk e.d=true:=by cases e<;>rfl
noncomputable def ue(s:WS)(e:Ev)(r:Int):D:=.tup [e.d,s.d,.int r]
theorem fP(s:WS)(e:Ev)(r:Int):sk (ue s e r)=true:=by
 show(sk e.d&&(sk s.d&&(true&&true)))=true
 rw[lM,df];rfl
section
variable{C a l:Nat}{b:Bk}{s s':WS}{r:Int}{p:LD}{ρ:R}{f:R->OD}
theorem EG:sZ C (oS "book") (Wo C a l b s r p)=some b.d:=by show(if C+2=C+2 then _ else none)=_;rw[Of rfl];rfl
theorem BD:sZ C (oS "present") (Wo C a l b s r p)=some s.d:=by show(if C+2=C+2 then _ else none)=_;rw[Of rfl];rfl
theorem EY:sZ C (oS "rung") (Wo C a l b s r p)=some (.int r):=by show(if C+2=C+2 then _ else none)=_;rw[Of rfl];rfl
theorem wS:ym [a,l] (a::[b.d,s.d,.int r,.obj 0 l [] p].flatMap vM)=true:=by
 show ym [a,l] [a,l]=true
 simp[ym]
theorem LQ(hn:n6 p=true):[b.d,s.d,.int r,.obj 0 l [] p].all okN=true:=by
 show(sk b.d&&(sk s.d&&(true&&(n6 p&&true))))=true
 rw[fB,df,hn];rfl
theorem HY(hn:n6 p=true)(hb:s9 0 (some (Wo C a l b s r p)::ρ)=true)(hf:f (some (Wo C a l b s r p)::ρ)=some s'.d):uT 0 C (oS "present") f [a,l] (some (Wo C a l b s r p)::ρ)=some (.nx (some (Wo C a l b s' r p)::ρ)):=by
 show(f _).bind _=_
 rw[hf,Oc]
 exact Of ⟨rfl,df _,hb,wS,by decide,LQ hn,df s⟩
theorem HD{r':Int}(hn:n6 p=true)(hb:s9 0 (some (Wo C a l b s r p)::ρ)=true)(hf:f (some (Wo C a l b s r p)::ρ)=some (.int r')):uT 0 C (oS "rung") f [a,l] (some (Wo C a l b s r p)::ρ)=some (.nx (some (Wo C a l b s r' p)::ρ)):=by
 show(f _).bind _=_
 rw[hf,Oc]
 exact Of ⟨rfl,rfl,hb,wS,by decide,LQ hn,rfl⟩
theorem KO{d:D}(hn:n6 p=true)(hp:p.length<1000)(hd:sk d=true)(hb:s9 0 (some (Wo C a l b s r p)::ρ)=true)(hf:f (some (Wo C a l b s r p)::ρ)=some d):G4 0 C (oS "past") f [a,l] (some (Wo C a l b s r p)::ρ)=some (.nx (some (Wo C a l b s r (p++[d]))::ρ)):=by
 show(f _).bind _=_
 rw[hf,Oc]
 exact Of ⟨rfl,hd,hb,wS,hp,hn,by show(sk b.d&&(sk s.d&&(true&&(true&&true))))=true;rw[fB,df];rfl,by simp⟩
end
theorem ED{C a l:Nat}{b:Bk}{s:WS}{r:Int}{p:LD}(ok:b.Ok)(w:s.Wk b)(e:Ev)(h:CT e)(hp:p.length<1000)(hn:n6 p=true) :
  aO C [Wo C a l b s r p,e.d]=some (.non,Wo C a l b (gone b s e) (r+wj b s e) (p++[ue s e r])):=by
 have s1:sH (m8 (h9 gz (e8 (vC (sZ C (oS "book")) (g4 0)) (e8 (vC (sZ C (oS "present")) (g4 0)) (e8 (g4 1) g5)))) (setAt 2)) [a,l] [some (Wo C a l b s r p),some e.d,none,none]=some (.nx [some (Wo C a l b s r p),some e.d,some (gone b s e).d,none]):=by
  show(m8 _ _ _).bind _=_
  rw[p4 (i7 (p5 (B3 rfl EG) (p5 (B3 rfl BD) (p5 rfl rfl))) (qY ok w e)) rfl];rfl
 have s2:sH (m8 (i6 rL (vC (sZ C (oS "rung")) (g4 0)) (h9 cu (e8 (vC (sZ C (oS "book")) (g4 0)) (e8 (vC (sZ C (oS "present")) (g4 0)) (e8 (g4 1) g5))))) (setAt 3)) [a,l] [some (Wo C a l b s r p),some e.d,some (gone b s e).d,none]=some (.nx [some (Wo C a l b s r p),some e.d,some (gone b s e).d,some (.int (r+wj b s e))]):=by
  show(m8 _ _ _).bind _=_
  rw[p4 (k7 (B3 rfl EY) (i7 (p5 (B3 rfl EG) (p5 (B3 rfl BD) (p5 rfl rfl))) (lS ok w e h)) rfl) rfl];rfl
 have nb:∀x y:OD,uL x=true->uL y=true->∀ob:D,s9 0 [some ob,some e.d,x,y]=true:=fun x y hx hy ob=>by
  show(true&&(sk e.d&&(uL x&&(uL y&&true))))=true
  rw[lM,hx,hy];rfl
 have s3:=KO (C:=C) (a:=a) (l:=l) (b:=b) (s:=s) (r:=r) (p:=p) (ρ:=[some e.d,some (gone b s e).d,some (.int (r+wj b s e))]) (f:=rM (e8 (g4 1) (e8 (vC (sZ C (oS "present")) (g4 0)) (e8 (vC (sZ C (oS "rung")) (g4 0)) g5)))) (d:=ue s e r) hn hp (fP s e r) (nb (some (gone b s e).d) (some (.int (r+wj b s e))) (df _) rfl _) (tupS (p5 rfl (p5 (B3 rfl BD) (p5 (B3 rfl EY) rfl))))
 have hn':n6 (p++[ue s e r])=true:=by
  have:∀q:LD,n6 q=true->n6 (q++[ue s e r])=true:=fun q=>by
   induction q with
   | nil=>intro _;show(sk _&&true)=true;rw[fP];rfl
   | cons x q ih =>
    intro h
    have h':(sk x&&n6 q)=true:=h
    rw[Oe] at h'
    show(sk x&&n6 (q++_))=true
    rw[h'.1,ih h'.2];rfl
  exact this p hn
 have s4:=HY (C:=C) (a:=a) (l:=l) (b:=b) (s:=s) (s':=gone b s e) (r:=r) (p:=p++[ue s e r]) (ρ:=[some e.d,some (gone b s e).d,some (.int (r+wj b s e))]) (f:=g4 2) hn' (nb (some (gone b s e).d) (some (.int (r+wj b s e))) (df _) rfl _) rfl
 have s5:=HD (C:=C) (a:=a) (l:=l) (b:=b) (s:=gone b s e) (r:=r) (r':=r+wj b s e) (p:=p++[ue s e r]) (ρ:=[some e.d,some (gone b s e).d,some (.int (r+wj b s e))]) (f:=g4 3) hn' (nb (some (gone b s e).d) (some (.int (r+wj b s e))) (df _) rfl _) rfl
 have g:cX C [a,l] [some (Wo C a l b s r p),some e.d,none,none]=some (.nx [some (Wo C a l b (gone b s e) (r+wj b s e) (p++[ue s e r])),some e.d,some (gone b s e).d,some (.int (r+wj b s e))]):=by
  show(sH _ [a,l] _).bind _=_
  rw[s1,Oc]
  show(sH _ [a,l] _).bind _=_
  rw[s2,Oc]
  show(G4 _ _ _ _ [a,l] _).bind _=_
  rw[s3,Oc]
  show(uT _ _ _ _ [a,l] _).bind _=_
  rw[s4,Oc]
  exact s5
 show(cX C [a,l] [some (Wo C a l b s r p),some e.d,none,none]).bind _=_
 rw[g,Oc]
 exact Of ⟨rfl,rfl⟩
theorem Fw{C a l:Nat}{b:Bk}{s:WS}{r:Int}{p:LD}{mn:Str}{G:LD->N7 (D×D)}{F:R->N7 LD}{ρ:R}{ds:LD}{d ob':D}(h1:F (some (Wo C a l b s r p)::ρ)=some ds)(h2:G (Wo C a l b s r p::ds)=some (d,ob'))(h3:[oS "book",oS "present",oS "rung",oS "past"].contains mn=false)(h4:s9 0 (some (Wo C a l b s r p)::ρ)=true) :
  AR 0 C mn G F [a,l] (some (Wo C a l b s r p)::ρ)=some (d,some ob'::ρ):=by
 show(F _).bind _=_
 rw[h1,Oc,h2,Oc]
 exact Of ⟨rfl,h3,h4,wS⟩
def dQ(C:Nat):MU:=
 (Dh (AR 0 C (oS "happen") (aO C) (e8 (rM (e8 (kS "down") (e8 (g4 1) g5))) g5)))
def cN(C:Nat):LD->N7 (D×D):=yq 2 2 0 (dQ C)
def tj(C:Nat):LD->N7 (Except Nat (D×D)):=fun ds=>(cN C ds).map .ok
theorem JA{C a l:Nat}{b:Bk}{s:WS}{r:Int}{p:LD}(ok:b.Ok)(w:s.Wk b)(x:uS)(hp:p.length<1000)(hn:n6 p=true) :
  cN C [Wo C a l b s r p,.str x.x]=some (.non,Wo C a l b (gone b s (.down x)) (r+wj b s (.down x)) (p++[ue s (.down x) r])):=by
 have g:dQ C [a,l] [some (Wo C a l b s r p),some (.str x.x)]=some (.nx [some (Wo C a l b (gone b s (.down x)) (r+wj b s (.down x)) (p++[ue s (.down x) r])),some (.str x.x)]):=by
  show(AR _ _ _ _ _ [a,l] _).map _=_
  rw[Fw (ds:=[(Ev.down x).d]) rfl (ED ok w (.down x) trivial hp hn) (by decide +kernel) rfl];rfl
 show(dQ C [a,l] [some (Wo C a l b s r p),some (.str x.x)]).bind _=_
 rw[g,Oc]
 exact Of ⟨rfl,rfl⟩
def dv(C:Nat):MU:=
 (Dh (AR 0 C (oS "happen") (aO C) (e8 (rM (e8 (kS "ticks") (e8 (g4 1) g5))) g5)))
def cz(C:Nat):LD->N7 (D×D):=yq 2 2 0 (dv C)
def sJ(C:Nat):LD->N7 (Except Nat (D×D)):=fun ds=>(cz C ds).map .ok
theorem Gx{C a l:Nat}{b:Bk}{s:WS}{r:Int}{p:LD}(ok:b.Ok)(w:s.Wk b){n:Int}(h:1<=n/\n<259200)(hp:p.length<1000)(hn:n6 p=true) :
  cz C [Wo C a l b s r p,.int n]=some (.non,Wo C a l b (gone b s (.ticks n)) (r+wj b s (.ticks n)) (p++[ue s (.ticks n) r])):=by
 have g:dv C [a,l] [some (Wo C a l b s r p),some (.int n)]=some (.nx [some (Wo C a l b (gone b s (.ticks n)) (r+wj b s (.ticks n)) (p++[ue s (.ticks n) r])),some (.int n)]):=by
  show(AR _ _ _ _ _ [a,l] _).map _=_
  rw[Fw (ds:=[(Ev.ticks n).d]) rfl (ED ok w (.ticks n) h hp hn) (by decide +kernel) rfl];rfl
 show(dv C [a,l] [some (Wo C a l b s r p),some (.int n)]).bind _=_
 rw[g,Oc]
 exact Of ⟨rfl,rfl⟩
def bw(C:Nat):MU:=
  (tm (Gh (l7 xK (vW 0 C (oS "past") (h9 wB (e8 (vC (sZ C (oS "past")) (g4 0)) g5))) (kI 0))
  (fun _ _=>none)
  vE)
  (tm (DU 1 0 C (oS "past"))
  (tm (uT 0 C (oS "present") (i6 k8 (g4 1) (kI 1)))
  (uT 0 C (oS "rung") (i6 k8 (g4 1) (kI 2))))))
def eG(C:Nat):LD->N7 (D×D):=yq 1 2 0 (bw C)
def tu(C:Nat):List Nat->R->N7 (Except Nat MO):=
  (DA (l7 xK (vW 0 C (oS "past") (h9 wB (e8 (vC (sZ C (oS "past")) (g4 0)) g5))) (kI 0)) (kS "nothing is left that could be taken back") 1
  (tm (DU 1 0 C (oS "past"))
  (tm (uT 0 C (oS "present") (i6 k8 (g4 1) (kI 1)))
  (uT 0 C (oS "rung") (i6 k8 (g4 1) (kI 2))))))
def m7(C:Nat):LD->N7 (Except Nat (D×D)):=ET 1 2 0 (tu C)
def fN(C:Nat):MU:=
 (Dh (AR 0 C (oS "happen") (aO C) (e8 (rM (e8 (kS "up") (e8 (g4 1) g5))) g5)))
def eh(C:Nat):LD->N7 (D×D):=yq 2 2 0 (fN C)
def uc(C:Nat):LD->N7 (Except Nat (D×D)):=fun ds=>(eh C ds).map .ok
theorem L7{C a l:Nat}{b:Bk}{s:WS}{r:Int}{p:LD}(ok:b.Ok)(w:s.Wk b)(x:uS)(hp:p.length<1000)(hn:n6 p=true) :
  eh C [Wo C a l b s r p,.str x.x]=some (.non,Wo C a l b (gone b s (.up x)) (r+wj b s (.up x)) (p++[ue s (.up x) r])):=by
 have g:fN C [a,l] [some (Wo C a l b s r p),some (.str x.x)]=some (.nx [some (Wo C a l b (gone b s (.up x)) (r+wj b s (.up x)) (p++[ue s (.up x) r])),some (.str x.x)]):=by
  show(AR _ _ _ _ _ [a,l] _).map _=_
  rw[Fw (ds:=[(Ev.up x).d]) rfl (ED ok w (.up x) trivial hp hn) (by decide +kernel) rfl];rfl
 show(fN C [a,l] [some (Wo C a l b s r p),some (.str x.x)]).bind _=_
 rw[g,Oc]
 exact Of ⟨rfl,rfl⟩
def cK(C:Nat):MU:=
  (tm (Gh (l7 xK (i6 r_ (g4 1) (kI 6)) (kI 0))
  (Af (vG 0 [0] (tP C (oS "undo") 0 (m7 C) g5) k9))
  vE)
  (tm (sH (m8 (h9 bK (e8 (i6 uq (g4 1) (kI 8)) g5)) (setAt 2)))
  (tm (Gh (l7 xK (i6 k8 (g4 2) (kI 0)) (kS "down"))
  (Af (vG 0 [0,2] (tP C (oS "down") 0 (tj C) (e8 (i6 k8 (g4 1) (kI 1)) g5)) k9))
  vE)
  (tm (Gh (l7 xK (i6 k8 (g4 2) (kI 0)) (kS "up"))
  (Af (vG 0 [0,2] (tP C (oS "up") 0 (uc C) (e8 (i6 k8 (g4 1) (kI 1)) g5)) k9))
  vE)
  (Af (vG 0 [0,2] (tP C (oS "ticks") 0 (sJ C) (e8 (i6 k8 (g4 1) (kI 1)) g5)) k9))))))
def aL(C:Nat):LD->N7 (D×D):=yq 2 3 0 (cK C)
def pY:R->N7 Out:=
  (m6 (m8 (rM (e8 (kI 0) (e8 (kI 0) (e8 (fun _=>some (.bl false)) g5)))) (setAt 1))
  (m6 (m8 (rM (e8 (kI 0) (e8 (fun _=>some (.bl false)) (e8 (rM g5) g5)))) (setAt 2))
  (m6 (m8 (rM (e8 (kI 0) (e8 (kI 0) (e8 (kI 0) (e8 (fun _=>some (.bl false)) g5))))) (setAt 3))
  (l6 (rM (e8 (kI 0) (e8 (kI 0) (e8 (g4 1) (e8 (g4 2) (e8 (g4 3) (e8 (kI 0) (e8 (fun _=>some .non) (e8 (kI 0) g5)))))))))))))
def d_:LD->OD:=via 1 4 pY
theorem pL(b:D):d_ [b]=some l0.d:=l5 ((l9 (p4 rfl rfl)).trans ((l9 (p4 rfl rfl)).trans ((l9 (p4 rfl rfl)).trans (retS rfl))))
def aM(C:Nat):MU:=
  (tm (uT 0 C (oS "book") (g4 1))
  (tm (uT 0 C (oS "present") (h9 d_ (e8 (g4 1) g5)))
  (tm (uT 0 C (oS "rung") (kI 0))
  vE)))
theorem Ig(C a l:Nat)(b:Bk):vO 2 C (oS "past") (aM C) [b.d] a l=some (Wo C a l b l0 0 []):=by
 have n1:=fB b
 have n2:=df l0
 have hS:ym [a] [a]=true:=by simp[ym]
 have s1:uT 0 C (oS "book") (g4 1) [a] [some (.obj (C+2) a [] []),some b.d]=some (.nx [some (.obj (C+2) a [oS "book"] [b.d]),some b.d]):=Of ⟨rfl,n1,by show(true&&(sk b.d&&true))=true;rw[n1];rfl,hS,by decide,rfl,rfl⟩
 have s2:uT 0 C (oS "present") (h9 d_ (e8 (g4 1) g5)) [a] [some (.obj (C+2) a [oS "book"] [b.d]),some b.d]=some (.nx [some (.obj (C+2) a [oS "book",oS "present"] [b.d,l0.d]),some b.d]):=by
  show(h9 d_ _ _).bind _=_
  rw[i7 rfl (pL _),Oc]
  exact Of ⟨rfl,n2,by show(true&&(sk b.d&&true))=true;rw[n1];rfl,hS,by decide,by show(okN b.d&&true)=true;rw[show okN b.d=sk b.d from rfl,n1];rfl,rfl⟩
 have s3:uT 0 C (oS "rung") (kI 0) [a] [some (.obj (C+2) a [oS "book",oS "present"] [b.d,l0.d]),some b.d]=some (.nx [some (.obj (C+2) a [oS "book",oS "present",oS "rung"] [b.d,l0.d,.int 0]),some b.d]):=
  Of ⟨rfl,rfl,by show(true&&(sk b.d&&true))=true;rw[n1];rfl,hS,by decide,by show(okN b.d&&(okN l0.d&&true))=true;rw[show okN b.d=sk b.d from rfl,n1];rfl,rfl⟩
 have g:aM C [a] [some (.obj (C+2) a [] []),some b.d]=some (.nx [some (.obj (C+2) a [oS "book",oS "present",oS "rung"] [b.d,l0.d,.int 0]),some b.d]):=by
  show(uT 0 C (oS "book") (g4 1) [a] _).bind _=_
  rw[s1,Oc]
  show(uT 0 C (oS "present") _ [a] _).bind _=_
  rw[s2,Oc]
  show(uT 0 C (oS "rung") _ [a] _).bind _=_
  rw[s3];rfl
 show(aM C [a] [some (.obj (C+2) a [] []),some b.d]).bind _=_
 rw[g,Oc]
 exact Of ⟨rfl,rfl,by show(sk b.d&&(sk l0.d&&(true&&true)))=true;rw[n1,n2];rfl,by show 3<100;decide⟩
def mL:R->N7 Out:=
 (m8 (h9 cD (e8 (h9 aR (e8 (g4 0) (e8 (kI 0) g5))) g5)) (setAt 1))
def yJ(C:Nat):MU:=
 (sH (m8 (h9 aR (e8 (g4 0) (e8 (i6 rL (kI 2) (g4 6)) g5))) (setAt 7)))
def zj(C:Nat):MU:=
 (sH (m8 (h9 (ay C) (e8 (g4 3) g5)) (setAt 8)))
def zi(C:Nat):MU:=
 (sH (m8 (h9 BO (e8 (g4 8) g5)) (setAt 9)))
def yQ(C:Nat):MU:=
  (sH (xM (l7 vL (h9 (ay C) (e8 (g4 3) g5)) (g4 8))
  (l6 (fun _=>some (.bl false)))
  sC))
def y3(C:Nat):MU:=
 (HM (vR 2 (aL C) (e8 (g4 2) (e8 (g4 7) g5))) 10)
def yU(C:Nat):MU:=
  (Fq (vR 3 (aL C) (e8 (g4 3) (e8 (g4 7) g5))) vL (g4 10) (l7 Ik (h9 BO (e8 (g4 8) g5)) (g4 9))
  (sH (l6 (fun _=>some (.bl false))))
  vE)
def yO(C:Nat):MU:=
  (Gh (l7 xK (i6 k8 (g4 10) (kI 0)) (kS "refused"))
  (tm (E5 (l7 vL (h9 (ay C) (e8 (g4 3) g5)) (g4 8)) (vR 3 (aL C) (e8 (g4 3) (e8 (g4 7) g5))) vL (g4 10)
  (sH (l6 (fun _=>some (.bl false))))
  vE)
  (sH (xM (l7 vL (h9 (ay C) (e8 (g4 3) g5)) (g4 8))
  (l6 (fun _=>some (.bl false)))
  sC)))
  vE)
def zm(C:Nat):MU:=
  (sH (xM (l7 vL (h9 (ay C) (e8 (g4 3) g5)) (h9 (ay C) (e8 (g4 3) g5)))
  (l6 (fun _=>some (.bl false)))
  sC))
def iT(C:Nat):MU:=(tm (yJ C) (tm (zj C) (tm (zi C) (tm (yQ C) (tm (y3 C) (tm (yU C) (tm (yO C) (zm C))))))))
def mM(C:Nat):MU:=
 (sH (m8 (h9 (ay C) (e8 (g4 4) g5)) (setAt 5)))
def mE(C:Nat):MU:=
 (Hj (vP (i6 r_ (h9 aR (e8 (g4 0) (e8 (kI 1) g5))) (kI 12))) (setAt 6) (iT C))
def mZ(C:Nat):MU:=
  (sH (xM (l7 vL (h9 (ay C) (e8 (g4 2) g5)) (h9 (ay C) (e8 (g4 3) g5)))
  (l6 (fun _=>some (.bl false)))
  sC))
def mY(C:Nat):MU:=
 (sH (l6 (Bm (l7 xZ (h9 (ay C) (e8 (g4 4) g5)) (g4 5)))))
def FR(C:Nat):MU:=(tm (mM C) (tm (mE C) (tm (mZ C) (mY C))))
def E3(C:Nat):MU:=(Iw 4 (vO 2 C (oS "past") (aM C)) (e8 (g4 1) g5) (FR C))
def qu(C:Nat):R->N7 Out:=
 (m6 mL (CH 2 (vO 2 C (oS "past") (aM C)) (e8 (g4 1) g5) (Iw 3 (vO 2 C (oS "past") (aM C)) (e8 (g4 1) g5) (E3 C))))
def lq(C:Nat):LD->OD:=via 1 11 (qu C)
theorem rB(C:Nat):∀ds d,lq C ds=some d->wM (qu C (yo 11 ds))=some d:=fun _ _ h=>qt h
theorem rE(C:Nat):∀ds d,lq C ds=some d->ds.length=1:=fun _ _ h=>mV h
abbrev zQ:=Ev×WS×Int
def vN(x:zQ):D:=ue x.2.1 x.1 x.2.2
def wC(P:List zQ):LD:=P.map fun x=>x.1.d
def Wp(C a l:Nat)(b:Bk)(s:WS)(r:Int)(P:List zQ):D:=Wo C a l b s r (P.map vN)
theorem Bs(P:List zQ):n6 (P.map vN)=true:=dI (fun x=>fP _ _ _) P
theorem Km(P:List zQ)(x:zQ):P.map vN++[ue x.2.1 x.1 x.2.2]=(P++[x]).map vN:=by rw[List.map_append];rfl
section
variable{C a l:Nat}{b:Bk}{s:WS}{r:Int}{P:List zQ}{ρ:R}{F:R->OD}{d:D}
theorem Fc(hb:s9 0 (some (Wp C a l b s r P)::ρ)=true)(hF:F (some (.obj (C+2) a [oS "book",oS "present",oS "rung",oS "past"] [b.d,s.d,.int r,.fro (P.map vN)])::ρ)=some d)(hd:nof d=true):vW 0 C (oS "past") F (some (Wp C a l b s r P)::ρ)=some d:=by
 show(if _ then _ else none)=_
 rw[Of ⟨rfl,hb,Bs P,by show(sk b.d&&(sk s.d&&(true&&(true&&true))))=true;rw[fB,df];rfl⟩]
 show(F (some (.obj (C+2) a [oS "book",oS "present",oS "rung",oS "past"] [b.d,s.d,.int r,.fro (P.map vN)])::ρ)).bind _=_
 rw[hF,Oc,Of hd]
theorem Fh{q:LD}:sZ C (oS "past") (.obj (C+2) a [oS "book",oS "present",oS "rung",oS "past"] [b.d,s.d,.int r,.fro q])=some (.fro q):=by show(if C+2=C+2 then _ else none)=_;rw[Of rfl];rfl
end
theorem I8(e:Ev):nof e.d=true:=by cases e<;>rfl
theorem Dd:∀P:List zQ,nofs (wC P)=true
 | []=>rfl
 | x::P=>by show(nof x.1.d&&nofs (wC P))=true;rw[I8,Dd P];rfl
theorem kB(ρ:R):∀P:List zQ,xH (setAt 0) Ay (i6 k8 (g4 0) (kI 0)) (P.map vN) (none::ρ)=some (wC P)
 | []=>rfl
 | x::P=>Bj rfl (k7 rfl rfl rfl) (kB ρ P)
section
variable{C a l:Nat}{b:Bk}{s:WS}{r:Int}{P:List zQ}
theorem K5(hP:P.length<=1000):cF C [Wp C a l b s r P]=some (.tup (wC P)):=by
 have z:1000<=sizeLine:=by decide
 have hl:JN 1 (C_ (vC (sZ C (oS "past")) (g4 0))) (setAt 0) Ay (i6 k8 (g4 0) (kI 0)) [some (.obj (C+2) a [oS "book",oS "present",oS "rung",oS "past"] [b.d,s.d,.int r,.fro (P.map vN)])]=some (.lst (wC P)):=by
  have q:C_ (vC (sZ C (oS "past")) (g4 0)) [some (.obj (C+2) a [oS "book",oS "present",oS "rung",oS "past"] [b.d,s.d,.int r,.fro (P.map vN)])]=some (P.map vN):=by
   show(vC _ _ _).bind _=_
   rw[B3 rfl Fh];rfl
  unfold JN
  rw[q,Oc,Of (by rw[OK];omega)]
  exact congrArg (Option.map D.lst) (kB _ P)
 exact l5 (retS (i7 (p5 (Fc (ρ:=[]) rfl hl (Dd P)) rfl) rfl))
theorem Hn(w:s.Wk b)(hl:s.lm<1000000000000000000):bP C [Wp C a l b s r P]=some (t7 b s):=l5 (retS (i7 (p5 (B3 rfl EG) (p5 (B3 rfl BD) rfl)) (pK w hl)))
theorem Jy:bV C [Wp C a l b s r P]=some (.int r):=l5 (retS (B3 rfl EY))
theorem GU:bN C [Wp C a l b s r P]=some s.d:=l5 (retS (B3 rfl BD))
def Eg(b:Bk)(s:WS)(r:Int)(P:List zQ):D:=.tup [s.d,t7 b s,.int r,.tup (wC P)]
theorem GK{m:Str}{G:LD->OD}{ρ:R}{i:Nat}{d:D}(hm:[oS "book",oS "present",oS "rung",oS "past"].contains m=false)(h:g4 i ρ=some (Wp C a l b s r P))(hG:G [Wp C a l b s r P]=some d):El C m G (g4 i) g5 ρ=some d:=by
 show(g4 i ρ).bind _=_
 rw[h,Oc]
 show(if C+2=C+2/\_ then G [Wp C a l b s r P] else none)=_
 rw[Of ⟨rfl,hm⟩,hG]
theorem Lr(w:s.Wk b)(hl:s.lm<1000000000000000000)(hP:P.length<=1000):ay C [Wp C a l b s r P]=some (Eg b s r P):=
 l5 (retS (tupS (p5 (GK (by decide +kernel) rfl GU) (p5 (GK (by decide +kernel) rfl (Hn w hl)) (p5 (GK (by decide +kernel) rfl Jy) (p5 (GK (by decide +kernel) rfl (K5 hP)) rfl))))))
theorem Jh(x:zQ):eG C [Wp C a l b s r (P++[x])]=some (.non,Wp C a l b x.2.1 x.2.2 P):=by
 have hn:=Bs (P++[x])
 have ln:vW 0 C (oS "past") (h9 wB (e8 (vC (sZ C (oS "past")) (g4 0)) g5)) [some (Wp C a l b s r (P++[x])),none]=some (.int (((P++[x]).map vN).length:Int)):=Fc (ρ:=[none]) rfl (i7 (p5 (B3 rfl Fh) rfl) rfl) rfl
 have s1:Gh (l7 xK (vW 0 C (oS "past") (h9 wB (e8 (vC (sZ C (oS "past")) (g4 0)) g5))) (kI 0)) (fun _ _=>none) vE [a,l] [some (Wp C a l b s r (P++[x])),none]=some (.nx [some (Wp C a l b s r (P++[x])),none]):=by
  show(l7 xK _ _ _).bind _=_
  rw[sA (b:=false) ln rfl (by show some ((((P++[x]).map vN).length:Int)==0)=some false;rw[OP.mpr (by simp;omega)])];rfl
 have s2:DU 1 0 C (oS "past") [a,l] [some (Wp C a l b s r (P++[x])),none]=some (.nx [some (Wp C a l b s r P),some (vN x)]):=by
  have e1:((P++[x]).map vN).getLast?=some (vN x):=by simp
  have e2:((P++[x]).map vN).dropLast=P.map vN:=by simp
  show(match ((P++[x]).map vN).getLast? with | some d=>(if _ then _ else none) | none=>none)=_
  rw[e1]
  show(if _ then some (MO.nx [some (Wo C a l b s r ((P++[x]).map vN).dropLast),some (vN x)]) else none)=_
  rw[Of ⟨rfl,by decide,by show 1<2;decide,rfl,wS,hn,by show(sk b.d&&(sk s.d&&(true&&(true&&true))))=true;rw[fB,df];rfl,by simp⟩,e2];rfl
 have nb:∀ob:D,s9 0 [some ob,some (vN x)]=true:=fun ob=>by
  show(true&&(sk (vN x)&&true))=true
  rw[show sk (vN x)=true from fP _ _ _];rfl
 have s3:=HY (C:=C) (a:=a) (l:=l) (b:=b) (s:=s) (s':=x.2.1) (r:=r) (p:=P.map vN) (ρ:=[some (vN x)]) (f:=i6 k8 (g4 1) (kI 1)) (Bs P) (nb _) (k7 rfl rfl rfl)
 have s4:=HD (C:=C) (a:=a) (l:=l) (b:=b) (s:=x.2.1) (r:=r) (r':=x.2.2) (p:=P.map vN) (ρ:=[some (vN x)]) (f:=i6 k8 (g4 1) (kI 2)) (Bs P) (nb _) (k7 rfl rfl rfl)
 have g:bw C [a,l] [some (Wp C a l b s r (P++[x])),none]=some (.nx [some (Wp C a l b x.2.1 x.2.2 P),some (vN x)]):=by
  show(Gh _ _ _ [a,l] _).bind _=_
  rw[s1,Oc]
  show(DU _ _ _ _ [a,l] _).bind _=_
  rw[s2,Oc]
  show(uT _ _ _ _ [a,l] _).bind _=_
  rw[show uT 0 C (oS "present") (i6 k8 (g4 1) (kI 1)) [a,l] [some (Wp C a l b s r P),some (vN x)]=_ from s3,Oc]
  exact s4
 show(bw C [a,l] [some (Wp C a l b s r (P++[x])),none]).bind _=_
 rw[g,Oc]
 exact Of ⟨rfl,rfl⟩
end
theorem BN{st:D->R->N7 R}{u:MU}{S:List Nat}(I:Nat->R->Prop):∀(ds:LD) (k:Nat) (ρ0:R),I k ρ0->(∀i d ρ,ds[i]?=some d->I (k+i) ρ->∃ ρ1 ρ2,st d ρ=some ρ1/\u S ρ1=some (.nx ρ2)/\I (k+i+1) ρ2) ->
  ∃ ρ',D8 st u S ds ρ0=some (.nx ρ')/\I (k+ds.length) ρ'
 | [],k,ρ0,h0,_=>⟨ρ0,rfl,h0⟩
 | d::ds,k,ρ0,h0,hs=>by
  obtain⟨ρ1,ρ2,e1,e2,h2⟩:=hs 0 d ρ0 rfl h0
  obtain⟨ρ',e,h⟩:=BN I ds (k+1) ρ2 h2 fun i d' ρ hd hI=>by
   have:=hs (i+1) d' ρ hd (by rw[show k+(i+1)=k+1+i by omega];exact hI)
   rw[show k+(i+1)+1=k+1+i+1 by omega] at this
   exact this
  refine⟨ρ',?_,by rw[O9,show k+(ds.length+1)=k+1+ds.length by omega];exact h⟩
  show(st d ρ0).bind _=_
  rw[e1,Oc]
  show(u S ρ1).bind _=_
  rw[e2,Oc]
  exact e
theorem uM{A:List Nat}{o:OD}(h:uL o=true):yr A o=true:=by
 cases o with
 | none=>rfl
 | some d=>cases d<;>first | exact h | cases h
theorem Ia{A:List Nat}{C a l:Nat}{b:Bk}{s:WS}{r:Int}{P:List zQ}(h1:a∉A)(h2:l∉A):yr A (some (Wp C a l b s r P))=true:=by
 show([a,l].all (fun x=>!A.contains x) && [b.d,s.d,.int r,.obj 0 l [] (P.map vN)].all okN)=true
 rw[LQ (Bs P),Bool.and_true]
 simp[h1,h2]
theorem p_(s:WS):uB s.d<=5:=by
 have h:=nZ s.held
 simp[WS.d,WS.alarmD,WS.lapsD,WS.countD,uB,uP,CI]
 omega
theorem qE(e:Ev):rG e.d=true:=by
 cases e with
 | ticks n=>show(rG (.str (oS "ticks"))&&(true&&true))=true;rw[show rG (.str (oS "ticks"))=true by rw[rG];decide +kernel];rfl
 | down x=>show(rG (.str (oS "down"))&&(rG (.str x.x)&&true))=true;rw[h_,show rG (.str (oS "down"))=true by rw[rG];decide +kernel];rfl
 | up x=>show(rG (.str (oS "up"))&&(rG (.str x.x)&&true))=true;rw[h_,show rG (.str (oS "up"))=true by rw[rG];decide +kernel];rfl
theorem jI:∀P:List zQ,tw (wC P)=true
 | []=>rfl
 | x::P=>by show(rG x.1.d&&tw (wC P))=true;rw[qE,jI P];rfl
theorem mF:∀P:List zQ,uP (wC P)<=1
 | []=>Pg _
 | x::P=>by
  show max (uB x.1.d) (uP (wC P))<=1
  have h1:uB x.1.d<=1:=by cases x.1<;>exact Oo 1
  have h2:=mF P
  omega
theorem Fy(b:Bk)(s:WS)(r:Int)(P:List zQ):xZ (Eg b s r P) (Eg b s r P)=some true:=
 zU (by show max (uB s.d) (max (uB (t7 b s)) (max 0 (max (uP (wC P)+1) 0)))+1<=100;have:=p_ s;have h2:uB (t7 b s)=1:=rfl;have:=mF P;omega) (by show(rG s.d&&(rG (t7 b s)&&(true&&(tw (wC P)&&true))))=true;rw[lX,jz,jI];rfl)
theorem qa(b:Bk)(s:WS)(r:Int)(P:List zQ):sk (Eg b s r P)=true:=bE (by show(rG s.d&&(rG (t7 b s)&&(true&&(tw (wC P)&&true))))=true;rw[lX,jz,jI];rfl)
theorem Lw{c:R->N7 Bool}{u w:MU}{S:List Nat}{ρ:R}(h:c ρ=some true):Gh c u w S ρ=u S ρ:=by show(c ρ).bind _=_;rw[h];rfl
theorem JX{c:R->N7 Bool}{u w:MU}{S:List Nat}{ρ:R}(h:c ρ=some false):Gh c u w S ρ=w S ρ:=by show(c ρ).bind _=_;rw[h];rfl
def zC(b:Bk):WS->List Ev->Int
 | _,[]=>0
 | s,e::es=>wj b s e+zC b (gone b s e) es
def BP(b:Bk):WS->Int->List Ev->List zQ
 | _,_,[]=>[]
 | s,r,e::es=>(e,s,r)::BP b (gone b s e) (r+wj b s e) es
def We(C a l:Nat)(b:Bk)(es:List Ev):D:=Wp C a l b (rR b l0 es) (zC b l0 es) (BP b l0 0 es)
def ug(b:Bk)(es:List Ev):D:=Eg b (rR b l0 es) (zC b l0 es) (BP b l0 0 es)
theorem Cs(b:Bk)(s:WS)(es:List Ev)(e:Ev):rR b s (es++[e])=gone b (rR b s es) e:=D0 b s es [e]
theorem Bh(b:Bk)(e:Ev):∀(es:List Ev) (s:WS),zC b s (es++[e])=zC b s es+wj b (rR b s es) e
 | [],s=>by show wj b s e+0=0+wj b s e;omega
 | x::es,s=>by
  show wj b s x+zC b (gone b s x) (es++[e])=wj b s x+zC b (gone b s x) es+wj b (rR b (gone b s x) es) e
  rw[Bh b e es];omega
theorem yK(b:Bk)(e:Ev):∀(es:List Ev) (s:WS) (r:Int),BP b s r (es++[e])=BP b s r es++[(e,rR b s es,r+zC b s es)]
 | [],s,r=>by show [(e,s,r)]=[(e,s,r+0)];rw[Int.add_zero]
 | x::es,s,r=>by
  show(x,s,r)::BP b (gone b s x) (r+wj b s x) (es++[e])=(x,s,r)::(BP b (gone b s x) (r+wj b s x) es++[(e,rR b (gone b s x) es,r+(wj b s x+zC b (gone b s x) es))])
  rw[yK b e es,Int.add_assoc]
theorem AJ(b:Bk):∀(es:List Ev) (s:WS) (r:Int),wC (BP b s r es)=es.map Ev.d
 | [],_,_=>rfl
 | e::es,s,r=>congrArg (e.d::·) (AJ b es _ _)
theorem Dx(b:Bk)(es:List Ev)(s:WS)(r:Int):(BP b s r es).length=es.length:=by
 have:=congrArg List.length (AJ b es s r)
 rw[OK,show(wC (BP b s r es)).length=(BP b s r es).length from OK ..] at this
 exact this
theorem Ma{e:Ev}(h:e.Lt):M7 e<=130:=by
 cases e with
 | ticks n=>exact h.2
 | _=>show(0:Int)<=130;decide
theorem KQ{e:Ev}(h:e.Lt):CT e:=by
 cases e with
 | ticks n=>exact⟨h.1,by have:n<=130:=h.2;omega⟩
 | _=>trivial
theorem BF{b:Bk}(ok:b.Ok):∀(es:List Ev) (s:WS),s.Ok b->(∀e∈es,e.Lt)->(rR b s es).lm<=s.lm+130*es.length
 | [],s,_,_=>by show s.lm<=s.lm+130*0;omega
 | e::es,s,w,h=>by
  have he:=h e (.head _)
  have ih:=BF ok es (gone b s e) (yA ok w e he.1) fun x hx=>h x (.tail _ hx)
  have:=Gy w.toWk e he.1
  have:=Ma he
  rw[O9]
  show(rR b (gone b s e) es).lm<=_
  omega
def DW(es:List Ev):Prop:=(∀e∈es,e.Lt)/\es.length<=100
theorem DW.cat{es fs:List Ev}(h1:∀e∈es,e.Lt)(h2:∀e∈fs,e.Lt)(h:es.length+fs.length<=100):DW (es++fs):=
 ⟨fun e he=>(Pi.mp he).elim (h1 e) (h2 e),by rw[OW];exact h⟩
section
variable{C a l:Nat}{b:Bk}{es:List Ev}
theorem oi(ok:b.Ok)(h:DW es):(rR b l0 es).Ok b:=BR ok (xD ok) fun e he=>(h.1 e he).1
theorem Kl(ok:b.Ok)(h:DW es):(rR b l0 es).lm<1000000000000000000:=by
 have h1:=BF ok es l0 (xD ok) h.1
 have h2:=h.2
 have h3:l0.lm=0:=rfl
 omega
theorem D7(ok:b.Ok)(h:DW es):ay C [We C a l b es]=some (ug b es):=Lr (oi ok h).toWk (Kl ok h) (by rw[Dx];have:=h.2;omega)
theorem AC{A:List Nat}(h1:a∉A)(h2:l∉A):yr A (some (We C a l b es))=true:=Ia h1 h2
end
theorem CS(b:Bk)(es:List Ev):vL (ug b es) (ug b es)=some false:=by
 have h:=Fy b (rR b l0 es) (zC b l0 es) (BP b l0 0 es)
 show(xZ _ _).map _=_
 rw[show xZ (ug b es) (ug b es)=some true from h];rfl
theorem kE(b:Bk)(es:List Ev):sk (ug b es)=true:=qa _ _ _ _
theorem mN{u w:MU}{S:List Nat}{ρ ρ':R}(h:u S ρ=some (.nx ρ')):tm u w S ρ=w S ρ':=by show(u S ρ).bind _=_;rw[h];rfl
theorem mP{p:R->N7 Out}{S:List Nat}{ρ ρ':R}(h:p ρ=some (.nx ρ')):sH p S ρ=some (.nx ρ'):=by show(p ρ).bind _=_;rw[h];rfl
theorem N3{p:R->N7 Out}{S:List Nat}{ρ:R}{d:D}(h:p ρ=some (.rt d)):sH p S ρ=some (.rt d ρ):=by show(p ρ).bind _=_;rw[h];rfl
theorem Ka{it:R->N7 LD}{vN:D->R->N7 R}{u:MU}{S:List Nat}{ρ:R}{ds:LD}(h1:it ρ=some ds)(h2:n6 ds=true):Hj it vN u S ρ=D8 vN u S ds ρ:=by
 unfold Hj
 rw[h1,Oc,Of h2]
section
variable{C a l:Nat}{b:Bk}{j:Nat}{u:MU}{S:List Nat}{T:OD->OD->R}
end
section
variable{C a l:Nat}{b:Bk}{s:WS}{r:Int}{P:List zQ}{es:List Ev}{S:List Nat}{ρ:R}
theorem HJ:l7 xK (vW 0 C (oS "past") (h9 wB (e8 (vC (sZ C (oS "past")) (g4 0)) g5))) (kI 0) [some (Wp C a l b s r P),none]=some (((P.map vN).length:Int)==0):=sA (Fc (ρ:=[none]) rfl (i7 (p5 (B3 rfl Fh) rfl) rfl) rfl) rfl rfl
theorem Kw(hc:l7 xK (vW 0 C (oS "past") (h9 wB (e8 (vC (sZ C (oS "past")) (g4 0)) g5))) (kI 0) ρ=some false):tu C S ρ=(bw C S ρ).map .ok:=by
 have q:bw C S ρ=_:=mN (JX hc)
 rw[q]
 show((l7 _ _ _ ρ).bind _:N7 (Except Nat MO))=_
 rw[hc];rfl
theorem Ki{x:zQ}:m7 C [Wp C a l b s r (P++[x])]=some (.ok (.non,Wp C a l b x.2.1 x.2.2 P)):=by
 have q:=Jh (C:=C) (a:=a) (l:=l) (b:=b) (s:=s) (r:=r) (P:=P) x
 have hc:l7 xK (vW 0 C (oS "past") (h9 wB (e8 (vC (sZ C (oS "past")) (g4 0)) g5))) (kI 0) [some (Wp C a l b s r (P++[x])),none]=some false:=HJ.trans (congrArg some (OP.mpr (by simp;omega)))
 change (bw C [a,l] [some (Wp C a l b s r (P++[x])),none]).bind _=_ at q
 show(tu C [a,l] [some (Wp C a l b s r (P++[x])),none]).bind _=_
 rw[Kw hc]
 cases hg:bw C [a,l] [some (Wp C a l b s r (P++[x])),none] with
 | none=>rw[hg] at q;cases q
 | some o =>
  rw[hg,Oc] at q
  cases o<;>first | exact congrArg (Option.map Except.ok) q | cases q
theorem Lx:m7 C [Wp C a l b s r []]=some (.error 1):=by
 show(tu C [a,l] [some (Wp C a l b s r []),none]).bind _=_
 have q:tu C [a,l] [some (Wp C a l b s r []),none]=some (.error 1):=by
  show((l7 _ _ _ _).bind _:N7 (Except Nat MO))=_
  rw[HJ];rfl
 rw[q];rfl
theorem NK{e:Ev}:m7 C [We C a l b (es++[e])]=some (.ok (.non,We C a l b es)):=by
 have q:=Ki (C:=C) (a:=a) (l:=l) (b:=b) (s:=rR b l0 (es++[e])) (r:=zC b l0 (es++[e])) (P:=BP b l0 0 es) (x:=(e,rR b l0 es,0+zC b l0 es))
 rw[<- yK] at q
 have z:(0:Int)+zC b l0 es=zC b l0 es:=Int.zero_add _
 rw[z] at q
 exact q
theorem Nf:tP C (oS "undo") 0 (m7 C) g5 [some (We C a l b es)]=m7 C [We C a l b es]:=Of ⟨rfl,by decide +kernel⟩
end
def zB(s:WS)(M:Int):Prop:=0<=M/\s.lm<=M/\∀x∈s.lk,0<=x/\x<=M
theorem zB.up{s:WS}{M N:Int}(h:zB s M)(hN:M<=N):zB s N:=⟨by have:=h.1;omega,by have:=h.2.1;omega,fun x hx=>⟨(h.2.2 x hx).1,by have:=(h.2.2 x hx).2;omega⟩⟩
theorem FW{d:vZ}{s:WS}{M:Int}(h0:0<=s.lm)(h:zB s M):zB (deed d s) M:=by
 cases d
 case lap =>
  show zB (if s.lr then (if 4<=s.lk.length then s else {s with lk:=s.lk++[s.lm]}) else {s with lm:=0,lk:=[]}) M
  split
  ·split
   ·exact h
   ·refine⟨h.1,h.2.1,fun x hx=>?_⟩
    rcases Pi.mp hx with hx | hx
    ·exact h.2.2 x hx
    ·rw[Od.mp hx];exact⟨h0,h.2.1⟩
  ·exact⟨h.1,h.1,fun x hx=>by cases hx⟩
 all_goals first | exact h | (simp only[deed,wI];split<;>exact h)
theorem Aa{b:Bk}{s:WS}{i:Nat}{M:Int}(h0:0<=s.lm)(h:zB s M):zB (press b s i) M:=FW (d:=(b.row s.mode i).1) h0 h
theorem yu{b:Bk}{s:WS}{n M:Int}(hn:0<=n)(h:zB s M):zB (counted b s n) (M+n):=by
 refine⟨by have:=h.1;omega,?_,fun x hx=>⟨(h.2.2 x hx).1,by have:=(h.2.2 x hx).2;omega⟩⟩
 show uU s n<=_
 have:=h.2.1
 unfold uU;split<;>omega
theorem B8{b:Bk}{s:WS}{M:Int}(h0:0<=s.lm)(h:zB s M):zB (turned b s) M:=by
 unfold turned
 split
 ·exact h
 ·exact Aa (s:={s with held:=some (_,none)}) h0 h
theorem Cy{b:Bk}{s:WS}{n M:Int}(w:s.Wk b)(hn:0<=n)(h:zB s M):zB (ticked b s n) (M+n):=by
 unfold ticked
 split
 ·exact yu hn h
 ·rename_i t ht
  split
  ·exact yu hn h
  ·rename_i q
   have t1:=vd ht
   have:=yu (b:=b) (n:=n - t) (by omega) (B8 (b:=b) (w.cnt (n:=t) (by omega)).lm0 (yu (b:=b) (n:=t) (by omega) h))
   rw[show M+t+(n - t)=M+n by omega] at this
   exact this
theorem Fi{b:Bk}{s:WS}{M:Int}(w:s.Wk b)(h:zB s M)(e:Ev)(he:e.Lt):zB (gone b s e) (M+130):=by
 have up:=h.up (N:=M+130) (by omega)
 cases e with
 | down x=>show zB (pushed s x) _;unfold pushed;split<;>exact up
 | up x =>
  show zB (letGo b s x) _
  unfold letGo
  split
  ·split
   ·split
    ·exact Aa w.lm0 up
    ·exact up
   ·exact up
  ·exact up
 | ticks n =>
  have h1:1<=n:=he.1
  have h2:n<=130:=he.2
  exact(Cy w (by omega) h).up (by omega)
theorem xQ:∀ds:List PyData,PyData.shownAll ds=ds.map PyData.shown
 | []=>rfl
 | d::ds=>by rw[PyData.shownAll,xQ ds];rfl
theorem FA{α:Type}{f:α->Nat}{n:Nat}:∀{l:List α},(∀a∈l,f a<=n)->(l.map f).sum<=l.length*n
 | [],_=>by simp
 | a::l,h=>by
  have ih:=FA (l:=l) fun x hx=>h x (Oy _ hx)
  have:=h a ON
  rw[Pb,List.sum_cons,O9,Nat.add_mul]
  omega
theorem DS{ds:List PyData}{n:Nat}(h:∀d∈ds,d.shown.length<=n):(PyData.tuple ds).shown.length<=ds.length*n+2*ds.length+3:=by
 have a:=PySem.tupleText_len_le (PyData.shownAll ds)
 have b:((PyData.shownAll ds).map (·.length)).sum<=ds.length*n:=by
  rw[xQ,List.map_map]
  exact FA fun d hd=>h d hd
 rw[PyData.shown]
 rw[xQ] at a b ⊢
 rw[OK] at a
 omega
structure Sh (d:PyData) (n k:Nat):Prop where
 s1:d.showable=true
 s2:d.hasDict=false
 s3:d.depth<=k
 s4:d.shown.length<=n
theorem uj{ds:List PyData}{n k:Nat}(h:∀d∈ds,Sh d n k):Sh (.tuple ds) (ds.length*n+2*ds.length+3) (k+1) where
 s1:=by
  rw[PyData.showable]
  induction ds with
  | nil=>rfl
  | cons d ds ih=>rw[PyData.showableAll,(h d ON).s1,ih fun x hx=>h x (Oy _ hx)];rfl
 s2:=by
  rw[PyData.hasDict]
  induction ds with
  | nil=>rfl
  | cons d ds ih=>rw[PyData.hasDictAll,(h d ON).s2,ih fun x hx=>h x (Oy _ hx)];rfl
 s3:=by
  rw[PyData.depth]
  have:PyData.depthAll ds<=k:=by
   induction ds with
   | nil=>rw[PyData.depthAll];omega
   | cons d ds ih =>
    rw[PyData.depthAll]
    have a:=(h d ON).s3
    have b:=ih fun x hx=>h x (Oy _ hx)
    omega
  omega
 s4:=DS fun d hd=>(h d hd).s4
theorem Sh.mono{d:PyData}{n k n' k':Nat}(h:Sh d n k)(h1:n<=n')(h2:k<=k'):Sh d n' k':=⟨h.s1,h.s2,OH h.s3 h2,OH h.s4 h1⟩
theorem x8{x:Str}{n:Nat}(h:(PyData.str x).shown.length<=n):Sh (.str x) n 0:=⟨rfl,rfl,by rw[PyData.depth];all_goals simp,h⟩
theorem yB(b:Bool):Sh (.bool b) 100 0:=⟨rfl,rfl,by rw[PyData.depth];all_goals simp,by cases b<;>decide +kernel⟩
theorem tQ{n:Int}(h0:0<=n)(h1:n<1000000000):Sh (.int n) 1921 0:=by
 have h:=xU h0 (by omega)
 refine⟨by rw[PyData.showable];exact Pa h,rfl,by rw[PyData.depth];all_goals simp,?_⟩
 rw[PyData.shown]
 exact PyProof.Rows.int_text_len_1921 h
theorem DK:Sh .none 100 0:=⟨rfl,rfl,by rw[PyData.depth];all_goals simp,by decide +kernel⟩
theorem B7(x:uS):Sh (.str x.x) 100 0:=x8 (by cases x<;>decide +kernel)
theorem Ai{α:Type}(f:α->D)(l:List α):l3 (l.map f)=l.map fun a=>toPy (f a):=by
 induction l with
 | nil=>rfl
 | cons a l ih=>rw[Pb,l3,ih];rfl
theorem KW{b:Bk}{s:WS}(ok:b.Ok)(w:s.Ok b)(hb:zB s 999999):Sh (toPy s.d) 1000000 3:=by
 have hm:=w.mode
 have h8:=ok.some8
 have a1:=w.clock0;have a2:=w.clock1;have a3:=w.ah0;have a4:=w.ah1;have a5:=w.am0;have a6:=w.am1
 have a7:=w.lm0;have a8:=hb.2.1;have a9:=w.cm0;have c1:=w.cm1;have c2:=w.cs0;have c3:=w.cs1;have c4:=w.cl0;have c5:=w.cl1
 have c6:=w.ring0;have c7:=w.ring1;have c8:=w.idle0
 have c9:s.idle<=60:=by
  have hh:=ok.back60
  by_cases q:0<b.back
  ·have:=w.idle1 q;omega
  ·have:=w.idle2 (by have:=w.bk;omega);omega
 have hk:s.lk.length<=4:=w.lk
 have up:∀{d:PyData} {n k:Nat},Sh d n k->n<=100000->k<=2->Sh d 100000 2:=fun h h1 h2=>h.mono h1 h2
 have t1:Sh (toPy s.alarmD) 100000 2:=by
  have e:toPy s.alarmD=.tuple [.int s.ah,.int s.am,.bool s.aon]:=by rw[WS.alarmD,toPy,l3,l3,l3,l3,toPy,toPy,toPy]
  rw[e]
  refine up (uj (n:=1921) (k:=0) fun d hd=>?_) (by simp) (by decide)
  simp only[Oj,List.not_mem_nil,or_false] at hd
  rcases hd with rfl | rfl | rfl
  ·exact tQ (by omega) (by omega)
  ·exact tQ (by omega) (by omega)
  ·exact(yB _).mono (by decide) (by decide)
 have t2:Sh (toPy s.lapsD) 100000 2:=by
  have e:toPy s.lapsD=.tuple [.int s.lm,.bool s.lr,.tuple (s.lk.map fun x=>.int x)]:=by
   rw[WS.lapsD,toPy,l3,l3,l3,l3,toPy,toPy,toPy,Ai]
   congr 4
  rw[e]
  refine up (uj (n:=4*1921+2*4+3) (k:=1) fun d hd=>?_) (by simp) (by decide)
  simp only[Oj,List.not_mem_nil,or_false] at hd
  rcases hd with rfl | rfl | rfl
  ·exact(tQ (by omega) (by omega)).mono (by decide) (by decide)
  ·exact(yB _).mono (by decide) (by decide)
  ·refine(uj (n:=1921) (k:=0) fun d hd=>?_).mono ?_ (by decide)
   ·obtain⟨x,hx,rfl⟩:=List.mem_map.mp hd
    have:=hb.2.2 x hx
    exact tQ (by omega) (by omega)
   ·rw[OK];omega
 have t3:Sh (toPy s.countD) 100000 2:=by
  have e:toPy s.countD=.tuple [.int s.cm,.int s.cs,.int s.cl,.bool s.cr]:=by rw[WS.countD,toPy,l3,l3,l3,l3,l3,toPy,toPy,toPy,toPy]
  rw[e]
  refine up (uj (n:=1921) (k:=0) fun d hd=>?_) (by simp) (by decide)
  simp only[Oj,List.not_mem_nil,or_false] at hd
  rcases hd with rfl | rfl | rfl | rfl
  ·exact tQ (by omega) (by omega)
  ·exact tQ (by omega) (by omega)
  ·exact tQ (by omega) (by omega)
  ·exact(yB _).mono (by decide) (by decide)
 have t4:Sh (toPy (um s.held)) 100000 2:=by
  rcases hh:s.held with _ | ⟨x,k⟩
  ·rw[um,toPy];exact up DK (by decide) (by decide)
  ·have e:toPy (um (some (x,k)))=.tuple [.str x.x,toPy (sF k)]:=by rw[um,toPy,l3,l3,l3,toPy]
   rw[e]
   refine up (uj (n:=1921) (k:=0) fun d hd=>?_) (by simp) (by decide)
   simp only[Oj,List.not_mem_nil,or_false] at hd
   rcases hd with rfl | rfl
   ·exact(B7 x).mono (by decide) (by decide)
   ·cases k with
    | none=>rw[sF,toPy];exact DK.mono (by decide) (by decide)
    | some j =>
     have:=w.held x j hh
     have:=ok.hold9
     rw[sF,toPy];exact tQ (by omega) (by omega)
 have e:toPy s.d=.tuple [.int (s.mode:Int),.int s.clock,toPy s.alarmD,toPy s.lapsD,toPy s.countD,.int s.ring,toPy (um s.held),.int s.idle]:=by
  rw[WS.d,toPy,l3,l3,l3,l3,l3,l3,l3,l3,l3,toPy,toPy,toPy,toPy]
 have h:Sh (toPy s.d) 1000000 3:=by
  rw[e]
  refine(uj (n:=100000) (k:=2) fun d hd=>?_).mono (by simp) (by decide)
  simp only[Oj,List.not_mem_nil,or_false] at hd
  rcases hd with rfl | rfl | rfl | rfl | rfl | rfl | rfl | rfl
  ·exact up (tQ (by omega) (by omega)) (by decide) (by decide)
  ·exact up (tQ (by omega) (by omega)) (by decide) (by decide)
  ·exact t1
  ·exact t2
  ·exact t3
  ·exact up (tQ (by omega) (by omega)) (by decide) (by decide)
  ·exact t4
  ·exact up (tQ (by omega) (by omega)) (by decide) (by decide)
 exact h
theorem Hd(x y:Str):(x++y).cps.toList=x.cps.toList++y.cps.toList:=by
 show(x.cps++y.cps).toList=_
 simp
def asc(x:Str):Prop:=∀c∈x.cps.toList,c<16 ^ 8
theorem ur{x y:Str}(h1:asc x)(h2:asc y):asc (x++y):=by
 intro c hc
 rw[Hd] at hc
 exact(Pi.mp hc).elim (h1 c) (h2 c)
theorem wZ{x:Str}(h:x.cps.toList.all (fun c=>decide (c<16 ^ 8))=true):asc x:=fun c hc=>O_ (Oz.mp h c hc)
theorem B_:(List.range 200).all (fun n=>(tx n).cps.toList.all (fun c=>decide (c<16 ^ 8)))=true:=by decide +kernel
theorem Bf:(List.range 60).all (fun n=>(EB n).cps.toList.all (fun c=>decide (c<16 ^ 8)))=true:=by decide +kernel
theorem E2{n:Int}(h0:0<=n)(h1:n<200):asc (tx n):=by
 have e:=Oz.mp B_ n.toNat (by simp;omega)
 rw[Int.toNat_of_nonneg h0] at e
 exact wZ e
theorem yy{n:Int}(h0:0<=n)(h1:n<60):asc (EB n):=by
 have e:=Oz.mp Bf n.toNat (by simp;omega)
 rw[Int.toNat_of_nonneg h0] at e
 exact wZ e
theorem x5:asc colon:=wZ (by decide +kernel)
theorem DF:asc (oS ""):=wZ (by decide +kernel)
theorem JF:asc JS:=wZ (by decide +kernel)
theorem FC:asc Da:=wZ (by decide +kernel)
theorem BE{h m:Int}(a0:0<=h)(a1:h<60)(b0:0<=m)(b1:m<60):asc (xq h m):=ur (ur (yy a0 a1) x5) (yy b0 b1)
theorem Dl{n:Int}(h0:0<=n)(h1:n<10000):asc (AA n):=ur (ur (E2 (by omega) (by omega)) x5) (yy (by omega) (by omega))
theorem E8(n:Nat)(h:n<=4):asc (xB n):=by
 unfold xB
 split
 ·exact ur FC (E2 (by omega) (by omega))
 ·exact DF
theorem FT(n:Nat)(h:n<=4):(xB n).length<=2000:=by
 unfold xB
 have:=zd (n:=n) (by omega) (by omega)
 split
 ·rw[sS,xX];omega
 ·rw[xG];omega
theorem Dv{b:Bk}{s:WS}(w:s.Wk b)(hl:s.lm<9999)(f:Face):asc (yY f s)/\(yY f s).length<=10000:=by
 have c0:=w.clock0
 have c1:=w.clock1
 have ah0:=w.ah0
 have ah1:=w.ah1
 have am0:=w.am0
 have am1:=w.am1
 have lm0:=w.lm0
 have lk:=w.lk
 have cl0:=w.cl0
 have cl1:=w.cl1
 cases f with
 | time =>
  refine⟨ur (ur (BE (by omega) (by omega) (by omega) (by omega)) x5) (yy (by omega) (by omega)),?_⟩
  show(Dq s).length<=_
  have l1:=ww (h:=s.clock / 3600) (m:=s.clock / 60%60) (by omega) (by omega) (by omega) (by omega)
  have l2:=vp (n:=s.clock%60) (by omega) (by omega)
  unfold Dq
  rw[sS,sS,sT];omega
 | alarm =>
  have l1:=ww (h:=s.ah) (m:=s.am) (by omega) (by omega) (by omega) (by omega)
  refine⟨ur (BE (by omega) (by omega) (by omega) (by omega)) (by split;exact JF;exact DF),?_⟩
  show(Az s).length<=_
  unfold Az
  rw[sS]
  split
  ·rw[DI];omega
  ·rw[xG];omega
 | laps =>
  have l1:=(cB (s:=s.lm) (by omega) (by omega)).2
  refine⟨ur (Dl (by omega) (by omega)) (E8 _ (by omega)),?_⟩
  show(C9 s).length<=_
  have:=FT s.lk.length (by omega)
  unfold C9
  rw[sS];omega
 | count =>
  have l1:=(cB (s:=s.cl) (by omega) (by omega)).2
  exact⟨Dl (by omega) (by omega),by show(AA s.cl).length<=_;omega⟩
theorem Bc(f:Face):asc f.x/\f.x.length<=10000:=by
 constructor
 ·cases f<;>exact wZ (by decide +kernel)
 ·cases f<;>decide +kernel
theorem Al{x:Str}(h:asc x)(hl:x.length<=10000):(PyData.str x).shown.length<=100002:=by
 rw[PyData.shown]
 have:=PySem.StrLaws.reprText_len x h
 omega
section
variable{C a l:Nat}{b:Bk}{es:List Ev}{m:Int}
theorem mR{u w:MU}{S:List Nat}{ρ ρ':R}{d:D}(h:u S ρ=some (.rt d ρ')):tm u w S ρ=some (.rt d ρ'):=by show(u S ρ).bind _=_;rw[h];rfl
theorem Lq{c:MC}{S:List Nat}{ρ ρ':R}{d:D}(h:c S ρ=some (d,ρ')):Af c S ρ=some (.rt d ρ'):=by show(c S ρ).map _=_;rw[h];rfl
theorem Nm:ym [a,l] [a,l]=true:=by simp[ym]
theorem Kb{e:Ev}{o:OD}(ho:uL o=true):vG 0 [0] (tP C (oS "undo") 0 (m7 C) g5) k9 [a,l] [some (We C a l b (es++[e])),some (.int m),o]=some (.tup [.str sG,.non],[some (We C a l b es),some (.int m),o]):=by
 unfold vG
 rw[show za [0] [some (We C a l b (es++[e])),some (.int m),o]=some [We C a l b (es++[e])] from rfl,Oc]
 show(tP C _ 0 _ g5 [some (We C a l b (es++[e]))]).bind _=_
 rw[Nf,NK,Oc]
 exact Of ⟨rfl,Oz.mpr fun x hx=>by
  have hx':x=none\/x=some (.int m)\/x=o:=by simpa using hx
  rcases hx' with rfl | rfl | rfl
  ·rfl
  ·rfl
  ·exact uM ho,Nm,by show 0<3;decide⟩
theorem Lv{o:OD}:vG 0 [0] (tP C (oS "undo") 0 (m7 C) g5) k9 [a,l] [some (We C a l b []),some (.int m),o]=some (.tup [.str (oS "refused"),.non],[some (We C a l b []),some (.int m),o]):=by
 unfold vG
 rw[show za [0] [some (We C a l b []),some (.int m),o]=some [We C a l b []] from rfl,Oc]
 show(tP C _ 0 _ g5 [some (We C a l b [])]).bind _=_
 rw[Nf,show m7 C [We C a l b []]=some (.error 1) from Lx,Oc]
 rfl
theorem FU{e:Ev}{mn:Str}{G:LD->N7 (D×D)}{x:D}(hm:[oS "book",oS "present",oS "rung",oS "past"].contains mn=false)(hx:k8 e.d (.int 1)=some x)(hG:G [We C a l b es,x]=some (.non,We C a l b (es++[e]))) :
  vG 0 [0,2] (tP C mn 0 (fun ds=>(G ds).map .ok) (e8 (i6 k8 (g4 1) (kI 1)) g5)) k9 [a,l] [some (We C a l b es),some (.int m),some e.d]=some (.tup [.str sG,.non],[some (We C a l b (es++[e])),some (.int m),some e.d]):=by
 unfold vG
 rw[show za [0,2] [some (We C a l b es),some (.int m),some e.d]=some [We C a l b es,e.d] from rfl,Oc]
 show(tP C mn 0 _ _ [some (We C a l b es),some e.d]).bind _=_
 have q:tP C mn 0 (fun ds=>(G ds).map .ok) (e8 (i6 k8 (g4 1) (kI 1)) g5) [some (We C a l b es),some e.d]=some (.ok (.non,We C a l b (es++[e]))):=by
  unfold tP
  show(e8 _ _ _).bind _=_
  rw[p5 (k7 rfl rfl hx) rfl,Oc]
  show(if C+2=C+2/\_ then (G [We C a l b es,x]).map Except.ok else none)=_
  rw[Of ⟨rfl,hm⟩,hG];rfl
 rw[q,Oc]
 exact Of ⟨rfl,Oz.mpr fun y hy=>by
  have hy':y=none\/y=some (.int m)\/y=some e.d:=by simpa using hy
  rcases hy' with rfl | rfl | rfl
  ·rfl
  ·rfl
  ·exact uM (o:=some e.d) (lM e),Nm,by show 0<3;decide⟩
theorem dE{G:LD->N7 (D×D)}{e:Ev}{x:D}(hG:G [Wo C a l b (rR b l0 es) (zC b l0 es) ((BP b l0 0 es).map vN),x]=some (.non,Wo C a l b (gone b (rR b l0 es) e) (zC b l0 es+wj b (rR b l0 es) e) ((BP b l0 0 es).map vN++[ue (rR b l0 es) e (zC b l0 es)]))):G [We C a l b es,x]=some (.non,We C a l b (es++[e])):=by
 unfold We
 rw[yK,Bh,Cs,Int.zero_add]
 unfold Wp
 rw[<- Km]
 exact hG
end
theorem GW:vL (.tup [.str sG,.non]) (.tup [.str sG,.non])=some false:=
 zL (by show 1<=100;decide) (by show(rG (.str (oS "told"))&&(true&&true))=true;rw[show rG (.str (oS "told"))=true by rw[rG];decide +kernel];rfl)
theorem G3:vL (.tup [.str (oS "refused"),.non]) (.tup [.str (oS "refused"),.non])=some false:=
 zL (by show 1<=100;decide) (by show(rG (.str (oS "refused"))&&(true&&true))=true;rw[show rG (.str (oS "refused"))=true by rw[rG];decide +kernel];rfl)
theorem Lo{b:Bk}{es:List Ev}(C:Nat)(m:Int)(ok:b.Ok)(h:DW es)(hl:es.length<100):∃(fs:List Ev) (rf:Bool),DW fs/\fs.length<=es.length+1/\(rf=true->fs=es)/\∀a l,aL C [We C a l b es,.int m]=some (if rf then .tup [.str (oS "refused"),.non] else .tup [.str sG,.non],We C a l b fs):=by
 have fin:∀{a l:Nat} {fs:List Ev} {d:D} {o1 o2:OD},cK C [a,l] [some (We C a l b es),some (.int m),none]=some (.rt d [some (We C a l b fs),o1,o2])->aL C [We C a l b es,.int m]=some (d,We C a l b fs):=fun {a l fs d o1 o2} hg=>by
  show(cK C [a,l] [some (We C a l b es),some (.int m),none]).bind _=_
  rw[hg,Oc]
  exact Of ⟨rfl,rfl⟩
 by_cases hm:m%6=0
 ·have hc:∀a l,l7 xK (i6 r_ (g4 1) (kI 6)) (kI 0) [some (We C a l b es),some (.int m),none]=some true:=fun a l=>sA (k7 rfl rfl (modS (by decide))) rfl (by show some (m%6==0)=_;rw[hm];rfl)
  rcases List.eq_nil_or_concat es with rfl | ⟨fs,e,rfl⟩
  ·exact⟨[],true,h,Pg _,fun _=>rfl,fun a l=>fin (mR ((Lw (hc a l)).trans (Lq Lv)))⟩
  ·rw[List.concat_eq_append] at *
   exact⟨fs,false,⟨fun x hx=>h.1 x (O3 _ hx),by have:=h.2;rw[OW] at this;omega⟩,by rw[OW];omega,fun z=>(by cases z),fun a l=>fin (mR ((Lw (hc a l)).trans (Lq (Kb rfl))))⟩
 ·have hc:∀a l,l7 xK (i6 r_ (g4 1) (kI 6)) (kI 0) [some (We C a l b es),some (.int m),none]=some false:=fun a l=>sA (k7 rfl rfl (modS (by decide))) rfl (by show some (m%6==0)=_;rw[OP.mpr hm])
  obtain⟨e,ee,he⟩:=CB (m / 8)
  have s2:∀a l,sH (m8 (h9 bK (e8 (i6 uq (g4 1) (kI 8)) g5)) (setAt 2)) [a,l] [some (We C a l b es),some (.int m),none]=some (.nx [some (We C a l b es),some (.int m),some e.d]):=fun a l=>mP (p4 (i7 (p5 (k7 rfl rfl rfl) rfl) ee) rfl)
  have wk:=(oi ok h).toWk
  have hp:((BP b l0 0 es).map vN).length<1000:=by rw[OK,Dx];omega
  refine⟨es++[e],false,DW.cat h.1 (fun y hy=>by rw[Od.mp hy];exact he) (by show es.length+1<=100;omega),by rw[OW];exact Oo _,fun z=>(by cases z),fun a l=>fin (o1:=some (.int m)) (o2:=some e.d) ((mN (JX (hc a l))).trans ((mN (s2 a l)).trans ?_))⟩
  cases e with
  | down x=>exact mR ((Lw (sA (x:=.str (oS "down")) (b:=true) (k7 rfl rfl rfl) rfl rfl)).trans (Lq (FU (by decide +kernel) rfl (dE (JA ok wk x hp (Bs _))))))
  | up x=>exact(mN (JX (sA (x:=.str (oS "up")) (b:=false) (k7 rfl rfl rfl) rfl rfl))).trans (mR ((Lw (sA (x:=.str (oS "up")) (b:=true) (k7 rfl rfl rfl) rfl rfl)).trans (Lq (FU (by decide +kernel) rfl (dE (L7 ok wk x hp (Bs _)))))))
  | ticks n=>exact(mN (JX (sA (x:=.str (oS "ticks")) (b:=false) (k7 rfl rfl rfl) rfl rfl))).trans ((mN (JX (sA (x:=.str (oS "ticks")) (b:=false) (k7 rfl rfl rfl) rfl rfl))).trans (Lq (FU (by decide +kernel) rfl (dE (Gx ok wk (KQ he) hp (Bs _))))))
theorem z5{b:Bk}(ok:b.Ok):∀(es:List Ev) (s:WS) (M:Int),s.Ok b->zB s M->(∀e∈es,e.Lt)->zB (rR b s es) (M+130*es.length)
 | [],s,M,_,h,_=>h.up (by show M<=M+130*((0:Nat):Int);omega)
 | e::es,s,M,w,h,he=>by
  have ih:=z5 ok es (gone b s e) (M+130) (yA ok w e (he e (.head _)).1) (Fi w.toWk h e (he e (.head _))) fun x hx=>he x (.tail _ hx)
  exact ih.up (by rw[O9];omega)
theorem ID{b:Bk}{s:WS}{n:Int}(ok:b.Ok)(w:s.Wk b)(h0:0<=n)(hn:n<259200):0<=JZ b s n/\JZ b s n<=100:=by
 have bs:=xP w h0 hn
 unfold JZ
 cases ht:rY b s with
 | none=>exact⟨bs.1,by dsimp only;omega⟩
 | some t =>
  dsimp only
  have hp:=vd ht
  by_cases h:n<t
  ·rw[Of h];exact⟨bs.1,by omega⟩
  ·rw[Ov h]
   have wb:(behind b s t).Wk b:=(w.cnt (n:=t) (by omega)).trn ok
   have b1:=xP (n:=t) w (by omega) (by omega)
   have b2:=xP (n:=n - t) wb (by omega) (by omega)
   omega
theorem Ii{b:Bk}{s:WS}(ok:b.Ok)(w:s.Wk b){e:Ev}(he:e.Lt):0<=wj b s e/\wj b s e<=100:=by
 cases e with
 | ticks n=>exact ID ok w (by have:1<=n:=he.1;omega) (by have:n<=130:=he.2;omega)
 | _=>exact⟨Int.le_refl _,by show(0:Int)<=100;decide⟩
theorem EH{b:Bk}(ok:b.Ok):∀(es:List Ev) (s:WS),s.Ok b->(∀e∈es,e.Lt)->0<=zC b s es/\zC b s es<=100*es.length
 | [],_,_,_=>⟨Int.le_refl _,by show(0:Int)<=100*((0:Nat):Int);omega⟩
 | e::es,s,w,he=>by
  have h1:=Ii ok w.toWk (he e (.head _))
  have ih:=EH ok es (gone b s e) (yA ok w e (he e (.head _)).1) fun x hx=>he x (.tail _ hx)
  show 0<=wj b s e+zC b (gone b s e) es/\wj b s e+zC b (gone b s e) es<=_
  rw[O9];omega
theorem J9{e:Ev}(he:e.Lt):Sh (toPy e.d) 5000 1:=by
 have up:∀{d:PyData} {n k:Nat},Sh d n k->n<=1921->k<=0->Sh d 1921 0:=fun h h1 h2=>h.mono h1 h2
 cases e with
 | down x =>
  have q:toPy (Ev.down x).d=.tuple [.str (oS "down"),.str x.x]:=by rw[Ev.d,toPy,l3,l3,l3,toPy,toPy]
  rw[q]
  refine(uj (n:=1921) (k:=0) fun d hd=>?_).mono (by simp) (by decide)
  simp only[Oj,List.not_mem_nil,or_false] at hd
  rcases hd with rfl | rfl
  ·exact x8 (by decide +kernel)
  ·exact up (B7 x) (by decide) (by decide)
 | up x =>
  have q:toPy (Ev.up x).d=.tuple [.str (oS "up"),.str x.x]:=by rw[Ev.d,toPy,l3,l3,l3,toPy,toPy]
  rw[q]
  refine(uj (n:=1921) (k:=0) fun d hd=>?_).mono (by simp) (by decide)
  simp only[Oj,List.not_mem_nil,or_false] at hd
  rcases hd with rfl | rfl
  ·exact x8 (by decide +kernel)
  ·exact up (B7 x) (by decide) (by decide)
 | ticks n =>
  have q:toPy (Ev.ticks n).d=.tuple [.str (oS "ticks"),.int n]:=by rw[Ev.d,toPy,l3,l3,l3,toPy,toPy]
  rw[q]
  refine(uj (n:=1921) (k:=0) fun d hd=>?_).mono (by simp) (by decide)
  simp only[Oj,List.not_mem_nil,or_false] at hd
  rcases hd with rfl | rfl
  ·exact x8 (by decide +kernel)
  ·exact tQ (by have:1<=n:=he.1;omega) (by have:n<=130:=he.2;omega)
theorem EJ{b:Bk}{es:List Ev}(ok:b.Ok)(h:DW es)(hl:es.length<=20):∃z,BO [ug b es]=some (.str z):=by
 have w:=oi ok h
 have hb0:zB l0 0:=⟨Int.le_refl _,Int.le_refl _,fun x hx=>(by cases hx)⟩
 have hb:=z5 ok es l0 0 (xD ok) hb0 h.1
 have hs:=KW ok w (hb.up (by omega))
 have hr:=EH ok es l0 (xD ok) h.1
 have hlm:(rR b l0 es).lm<9999:=by have:=hb.2.1;omega
 have hrow:(BP b l0 0 es).map (fun x=>x.1.d)=es.map Ev.d:=AJ b es l0 0
 have e:toPy (ug b es)=.tuple [toPy (rR b l0 es).d,toPy (t7 b (rR b l0 es)),.int (zC b l0 es),.tuple (es.map fun x=>toPy x.d)]:=by
  unfold ug Eg wC
  rw[hrow,toPy,l3,l3,l3,l3,l3,toPy,toPy,Ai]
 generalize hst:rR b l0 es=s at *
 have h2:Sh (toPy (t7 b s)) 1000000 1:=by
  have q:toPy (t7 b s)=.tuple [.str (b.modes.getD s.mode default).face.x,.str (yY (b.modes.getD s.mode default).face s),.bool (decide (0<s.ring))]:=by rw[t7,toPy,l3,l3,l3,l3,toPy,toPy,toPy]
  rw[q]
  refine(uj (n:=100002) (k:=0) fun d hd=>?_).mono (by simp) (by decide)
  simp only[Oj,List.not_mem_nil,or_false] at hd
  rcases hd with rfl | rfl | rfl
  ·exact x8 (Al (Bc _).1 (Bc _).2)
  ·exact x8 (Al (Dv w.toWk hlm _).1 (Dv w.toWk hlm _).2)
  ·exact(yB _).mono (by decide) (by decide)
 have h4:Sh (.tuple (es.map fun x=>toPy x.d)) 1000000 2:=by
  refine(uj (n:=5000) (k:=1) fun d hd=>?_).mono ?_ (by decide)
  ·obtain⟨x,hx,rfl⟩:=List.mem_map.mp hd
   exact J9 (h.1 x hx)
  ·rw[OK];omega
 have hh:Sh (toPy (ug b es)) 5000000 4:=by
  rw[e]
  refine(uj (n:=1000000) (k:=3) fun d hd=>?_).mono (by simp) (by decide)
  simp only[Oj,List.not_mem_nil,or_false] at hd
  rcases hd with rfl | rfl | rfl | rfl
  ·exact hs
  ·exact h2.mono (Oo _) (by decide)
  ·exact(tQ hr.1 (by omega)).mono (by decide) (by decide)
  ·exact h4.mono (Oo _) (by decide)
 have z:5000000<=sizeLine:=by decide
 exact⟨(toPy (ug b es)).shown,Of ⟨hh.s1,hh.s2,OH hh.s3 (by decide),OH hh.s4 z⟩⟩
theorem Lm{i a l C:Nat}{b:Bk}{es:List Ev}{G:LD->N7 (D×D)}{F:R->N7 LD}{S:List Nat}{ρ:R}{d ob':D}{ds:LD}(h1:g4 i ρ=some (We C a l b es))(h2:F ρ=some ds)(h3:G ds=some (d,ob'))(h5:v6 i [a,l] ρ=true)(h6:ym S [a,l]=true):vR i G F S ρ=some (d,ρ.set i (some ob')):=by
 unfold vR
 rw[h1,Oc,h2,Oc,h3,Oc]
 exact Of ⟨rfl,h5,h6⟩
abbrev vD(Sc:D)(b:Bk)(w2 w3 w4 o5 o6 o7 o8 o9 o10:OD):R:=[some Sc,some b.d,w2,w3,w4,o5,o6,o7,o8,o9,o10]
section
variable{C a l a' l':Nat}{S A:List Nat}{Sc:D}{b:Bk}{w2 w3 w4 o5 o6 o7 o8 o9 o10:OD}{es:List Ev}
theorem Ml(hS:sk Sc=true)(h3:yr A w3=true)(h4:yr A w4=true)(h:[o5,o6,o7,o8,o9,o10].all uL=true):v6 2 A (vD Sc b w2 w3 w4 o5 o6 o7 o8 o9 o10)=true:=by
 refine Oz.mpr fun x hx=>?_
 have hx':x=some Sc\/x=some b.d\/x=none\/x=w3\/x=w4\/x ∈ [o5,o6,o7,o8,o9,o10]:=by simpa [vD,or_assoc] using hx
 rcases hx' with rfl | rfl | rfl | rfl | rfl | hx
 ·exact uM hS
 ·exact uM (o:=some b.d) (fB b)
 ·rfl
 ·exact h3
 ·exact h4
 ·exact uM (Oz.mp h x hx)
theorem MM(hS:sk Sc=true)(h2:yr A w2=true)(h4:yr A w4=true)(h:[o5,o6,o7,o8,o9,o10].all uL=true):v6 3 A (vD Sc b w2 w3 w4 o5 o6 o7 o8 o9 o10)=true:=by
 refine Oz.mpr fun x hx=>?_
 have hx':x=some Sc\/x=some b.d\/x=w2\/x=none\/x=w4\/x ∈ [o5,o6,o7,o8,o9,o10]:=by simpa [vD,or_assoc] using hx
 rcases hx' with rfl | rfl | rfl | rfl | rfl | hx
 ·exact uM hS
 ·exact uM (o:=some b.d) (fB b)
 ·exact h2
 ·rfl
 ·exact h4
 ·exact uM (Oz.mp h x hx)
theorem IS{W4:OD}{i:Int}(ok:b.Ok)(hS:sk Sc=true)(hi:0<=i)(hmix:∀i:Int,0<=i->∃m,aR [Sc,.int i]=some (.int m)/\0<=m)(n1:a' ∉ [a,l])(n2:l' ∉ [a,l])(n3:a ∉ [a',l'])(n4:l ∉ [a',l'])(h4:yr [a,l] W4=true)(h4':yr [a',l'] W4=true)(i2:ym S [a,l]=true)(i3:ym S [a',l']=true)(h:DW es)(hl:es.length<=15)(h5:uL o5=true)(hn:[o7,o8,o9,o10].all uL=true) :
  ∃(fs:List Ev) (p7 p8 p9 p10:OD),DW fs/\fs.length<=es.length+1/\[p7,p8,p9,p10].all uL=true/\iT C S (vD Sc b (some (We C a l b es)) (some (We C a' l' b es)) W4 o5 (some (.int i)) o7 o8 o9 o10)=some (.nx (vD Sc b (some (We C a l b fs)) (some (We C a' l' b fs)) W4 o5 (some (.int i)) p7 p8 p9 p10)):=by
 have hn':(uL o7&&(uL o8&&(uL o9&&(uL o10&&true))))=true:=hn
 simp only[Oe] at hn'
 obtain⟨m,em,_⟩:=hmix (2+i) (by omega)
 obtain⟨fs,rf,hf,hfl,hrf,hG⟩:=Lo C m ok h (by omega)
 obtain⟨z,hz⟩:=EJ ok h (by omega)
 have hr:∃r:D,sk r=true/\vL r r=some false/\i6 k8 (fun _=>some r) (kI 0) []=some (.str (if rf then oS "refused" else sG))/\(if rf then D.tup [.str (oS "refused"),.non] else .tup [.str sG,.non])=r:=by
  cases rf with
  | true=>exact⟨_,rfl,G3,rfl,rfl⟩
  | false=>exact⟨_,rfl,GW,rfl,rfl⟩
 obtain⟨r,hr1,hr2,hr3,hr4⟩:=hr
 rw[hr4] at hG
 have ha:=D7 (C:=C) (a:=a') (l:=l') ok h
 have hne:=CS b es
 have hna:=kE b es
 have hfr:rf=true->ug b fs=ug b es:=fun q=>by rw[hrf q]
 generalize hA:ug b es=A at *
 have s1:yJ C S (vD Sc b (some (We C a l b es)) (some (We C a' l' b es)) W4 o5 (some (.int i)) o7 o8 o9 o10)=some (.nx (vD Sc b (some (We C a l b es)) (some (We C a' l' b es)) W4 o5 (some (.int i)) (some (.int m)) o8 o9 o10)):=mP (p4 (i7 (p5 rfl (p5 (k7 rfl rfl rfl) rfl)) em) rfl)
 have s2:zj C S (vD Sc b (some (We C a l b es)) (some (We C a' l' b es)) W4 o5 (some (.int i)) (some (.int m)) o8 o9 o10)=some (.nx (vD Sc b (some (We C a l b es)) (some (We C a' l' b es)) W4 o5 (some (.int i)) (some (.int m)) (some A) o9 o10)):=mP (p4 (i7 rfl ha) rfl)
 have s3:zi C S (vD Sc b (some (We C a l b es)) (some (We C a' l' b es)) W4 o5 (some (.int i)) (some (.int m)) (some A) o9 o10)=some (.nx (vD Sc b (some (We C a l b es)) (some (We C a' l' b es)) W4 o5 (some (.int i)) (some (.int m)) (some A) (some (.str z)) o10)):=mP (p4 (i7 rfl hz) rfl)
 have s4:yQ C S (vD Sc b (some (We C a l b es)) (some (We C a' l' b es)) W4 o5 (some (.int i)) (some (.int m)) (some A) (some (.str z)) o10)=some (.nx (vD Sc b (some (We C a l b es)) (some (We C a' l' b es)) W4 o5 (some (.int i)) (some (.int m)) (some A) (some (.str z)) o10)):=mP ((xR (sA (i7 rfl ha) rfl hne)).trans rfl)
 have q:∀x:OD,uL x=true->[o5,some (.int i),some (.int m),some A,some (.str z),x].all uL=true:=fun x hx=>by
  show(uL o5&&(true&&(true&&(sk A&&(true&&(uL x&&true))))))=true
  rw[h5,hna,hx];rfl
 have s5:y3 C S (vD Sc b (some (We C a l b es)) (some (We C a' l' b es)) W4 o5 (some (.int i)) (some (.int m)) (some A) (some (.str z)) o10)=some (.nx (vD Sc b (some (We C a l b fs)) (some (We C a' l' b es)) W4 o5 (some (.int i)) (some (.int m)) (some A) (some (.str z)) (some r))):=by
  show(vR 2 _ _ S (vD Sc b (some (We C a l b es)) (some (We C a' l' b es)) W4 o5 (some (.int i)) (some (.int m)) (some A) (some (.str z)) o10)).bind _=_
  rw[Lm (es:=es) rfl rfl (hG a l) (Ml hS (AC n1 n2) h4 (q _ hn'.2.2.2.1)) i2,Oc];rfl
 have c3:vR 3 (aL C) (e8 (g4 3) (e8 (g4 7) g5)) S (vD Sc b (some (We C a l b fs)) (some (We C a' l' b es)) W4 o5 (some (.int i)) (some (.int m)) (some A) (some (.str z)) (some r))=some (r,vD Sc b (some (We C a l b fs)) (some (We C a' l' b fs)) W4 o5 (some (.int i)) (some (.int m)) (some A) (some (.str z)) (some r)):=Lm (es:=es) rfl rfl (hG a' l') (MM hS (AC n3 n4) h4' (q _ hr1)) i3
 have s6:yU C S (vD Sc b (some (We C a l b fs)) (some (We C a' l' b es)) W4 o5 (some (.int i)) (some (.int m)) (some A) (some (.str z)) (some r))=some (.nx (vD Sc b (some (We C a l b fs)) (some (We C a' l' b fs)) W4 o5 (some (.int i)) (some (.int m)) (some A) (some (.str z)) (some r))):=by
  show(vR 3 _ _ S _).bind _=_
  rw[c3,Oc]
  show(vL r r).bind _=_
  rw[hr2,Oc]
  show(l7 Ik _ _ _).bind _=_
  rw[sA (F:=Ik) (x:=.str z) (y:=.str z) (b:=false) (i7 rfl hz) rfl (by show some (!(z==z))=_;simp)];rfl
 have haf:ay C [We C a' l' b fs]=some (ug b fs):=D7 ok hf
 have s7:yO C S (vD Sc b (some (We C a l b fs)) (some (We C a' l' b fs)) W4 o5 (some (.int i)) (some (.int m)) (some A) (some (.str z)) (some r))=some (.nx (vD Sc b (some (We C a l b fs)) (some (We C a' l' b fs)) W4 o5 (some (.int i)) (some (.int m)) (some A) (some (.str z)) (some r))):=by
  have hx:i6 k8 (g4 10) (kI 0) (vD Sc b (some (We C a l b fs)) (some (We C a' l' b fs)) W4 o5 (some (.int i)) (some (.int m)) (some A) (some (.str z)) (some r))=some (.str (if rf then oS "refused" else sG)):=hr3
  cases hrb:rf with
  | false =>
   rw[hrb] at hx
   exact JX (sA (b:=false) hx rfl rfl)
  | true =>
   rw[hrb] at hx
   have e:=hrf hrb
   subst e
   rw[hA] at haf
   refine(Lw (sA (b:=true) hx rfl rfl)).trans ((mN (ρ':=vD Sc b (some (We C a l b fs)) (some (We C a' l' b fs)) W4 o5 (some (.int i)) (some (.int m)) (some A) (some (.str z)) (some r)) ?_).trans (mP ((xR (sA (i7 rfl haf) rfl hne)).trans rfl)))
   show(l7 vL _ _ _).bind _=_
   rw[sA (i7 rfl haf) rfl hne,Oc]
   show(vR 3 _ _ S _).bind _=_
   rw[c3,Oc]
   show(vL r r).bind _=_
   rw[hr2];rfl
 have s8:zm C S (vD Sc b (some (We C a l b fs)) (some (We C a' l' b fs)) W4 o5 (some (.int i)) (some (.int m)) (some A) (some (.str z)) (some r))=some (.nx (vD Sc b (some (We C a l b fs)) (some (We C a' l' b fs)) W4 o5 (some (.int i)) (some (.int m)) (some A) (some (.str z)) (some r))):=mP ((xR (sA (i7 rfl haf) (i7 rfl haf) (CS b fs))).trans rfl)
 refine⟨fs,some (.int m),some A,some (.str z),some r,hf,hfl,?_,(mN s1).trans ((mN s2).trans ((mN s3).trans ((mN s4).trans ((mN s5).trans ((mN s6).trans ((mN s7).trans s8))))))⟩
 show(true&&(sk A&&(true&&(sk r&&true))))=true
 rw[hna,hr1];rfl
end
theorem Gr(C:Nat)(ns:List Int):lq C [.fro (ns.map .int)]=some (.bl true):=by
 obtain⟨n0,e0,_⟩:=wY ns 0 (by decide)
 obtain⟨n1,e1,_⟩:=wY ns 1 (by decide)
 have hmix:∀i:Int,0<=i->∃m,aR [.fro (ns.map .int),.int i]=some (.int m)/\0<=m:=wY ns
 obtain⟨bd,eb,hb,_⟩:=ni n0
 obtain⟨b,rfl,ok⟩:=qe hb
 have hS:sk (.fro (ns.map D.int))=true:=dI (fun _=>rfl) ns
 generalize hSc:D.fro (ns.map .int)=Sc at *
 have s1:mL (yo 11 [Sc])=some (.nx (yo 11 [Sc,b.d])):=p4 (i7 (p5 (i7 rfl e0) rfl) eb) rfl
 refine l5 ((l9 s1).trans ?_)
 refine GC (ds:=[b.d]) (r:=.bl true) rfl (by show 2<11;decide) fun a l hal=>⟨We C a l b [],[],Ig C a l b,?_⟩
 refine EV (ds:=[b.d]) (r:=.bl true) rfl (by show 3<11;decide) fun a' l' hal' ha' hl'=>⟨We C a' l' b [],[],Ig C a' l' b,?_⟩
 refine EV (ds:=[b.d]) (r:=.bl true) rfl (by show 4<11;decide) fun a'' l'' _ ha'' hl''=>?_
 have nn:∀{x y u v:Nat},x ∉ [u,v]->y ∉ [u,v]->u ∉ [x,y]/\v ∉ [x,y]:=fun {x y u v} h1 h2=>by
  simp only[Oj,List.not_mem_nil,or_false,not_or] at *
  omega
 obtain⟨q1,q2⟩:=nn ha' hl'
 have r1:a'' ∉ [a',l']/\l'' ∉ [a',l']/\a'' ∉ [a,l]/\l'' ∉ [a,l]:=by
  simp only[Oj,List.not_mem_nil,or_false,not_or] at *
  omega
 have i2:ym [a'',l'',a',l',a,l] [a,l]=true:=by simp[ym]
 have i3:ym [a'',l'',a',l',a,l] [a',l']=true:=by simp[ym]
 generalize [a'',l'',a',l',a,l]=S at *
 have f0:DW []:=⟨fun _ h=>(by cases h),(by decide)⟩
 have s5:mM C S (vD Sc b (some (We C a l b [])) (some (We C a' l' b [])) (some (We C a'' l'' b [])) none none none none none none)=some (.nx (vD Sc b (some (We C a l b [])) (some (We C a' l' b [])) (some (We C a'' l'' b [])) (some (ug b [])) none none none none none)):=mP (p4 (i7 rfl (D7 ok f0)) rfl)
 have hk0:=O1 n1 (b:=12) (by decide)
 have hk1:=OZ n1 (b:=12) (by decide)
 obtain⟨ρ',e6,fs,p6,p7,p8,p9,p10,rfl,hf,_,_⟩:=BN (st:=setAt 6) (u:=iT C) (S:=S) (fun k ρ=>∃(fs:List Ev) (p6 p7 p8 p9 p10:OD),ρ=vD Sc b (some (We C a l b fs)) (some (We C a' l' b fs)) (some (We C a'' l'' b [])) (some (ug b [])) p6 p7 p8 p9 p10/\DW fs/\fs.length<=k/\[p7,p8,p9,p10].all uL=true)
  (uZ 0 (n1%12)) 0 (vD Sc b (some (We C a l b [])) (some (We C a' l' b [])) (some (We C a'' l'' b [])) (some (ug b [])) none none none none none) ⟨[],none,none,none,none,none,rfl,f0,Oo _,rfl⟩ (by
   rintro i d ρ hd ⟨fs,p6,p7,p8,p9,p10,rfl,hf,hfl,hp⟩
   obtain⟨hil,hd'⟩:=OI.mp hd
   rw[jU] at hil
   have hdi:d=.int (i:Int):=by rw[<- hd'];simp[uZ]
   subst hdi
   obtain⟨gs,q7,q8,q9,q10,hg,hgl,hq,t⟩:=IS (C:=C) (S:=S) (a:=a) (l:=l) (a':=a') (l':=l') (Sc:=Sc) (b:=b) (es:=fs) (W4:=some (We C a'' l'' b [])) (i:=(i:Int)) (o5:=some (ug b [])) (o7:=p7) (o8:=p8) (o9:=p9) (o10:=p10) ok hS (by omega) hmix ha' hl' q1 q2 (AC r1.2.2.1 r1.2.2.2) (AC r1.1 r1.2.1) i2 i3 hf (by omega) (kE b []) hp
   exact⟨_,_,rfl,t,gs,some (.int (i:Int)),q7,q8,q9,q10,rfl,hg,by omega,hq⟩)
 have s6:mE C S (vD Sc b (some (We C a l b [])) (some (We C a' l' b [])) (some (We C a'' l'' b [])) (some (ug b [])) none none none none none)=some (.nx (vD Sc b (some (We C a l b fs)) (some (We C a' l' b fs)) (some (We C a'' l'' b [])) (some (ug b [])) p6 p7 p8 p9 p10)):=by
  have q:vP (i6 r_ (h9 aR (e8 (g4 0) (e8 (kI 1) g5))) (kI 12)) (vD Sc b (some (We C a l b [])) (some (We C a' l' b [])) (some (We C a'' l'' b [])) (some (ug b [])) none none none none none)=some (uZ 0 (n1%12)):=by
   show(i6 _ _ _ _).bind _=_
   rw[k7 (i7 (p5 rfl (p5 rfl rfl)) e1) rfl (modS (by decide)),Oc]
   exact Of ⟨by omega,by omega⟩
  exact(Ka q (dI (fun _=>rfl) _)).trans e6
 have s7:mZ C S (vD Sc b (some (We C a l b fs)) (some (We C a' l' b fs)) (some (We C a'' l'' b [])) (some (ug b [])) p6 p7 p8 p9 p10)=some (.nx (vD Sc b (some (We C a l b fs)) (some (We C a' l' b fs)) (some (We C a'' l'' b [])) (some (ug b [])) p6 p7 p8 p9 p10)):=mP ((xR (sA (i7 rfl (D7 ok hf)) (i7 rfl (D7 ok hf)) (CS b _))).trans rfl)
 have s8:mY C S (vD Sc b (some (We C a l b fs)) (some (We C a' l' b fs)) (some (We C a'' l'' b [])) (some (ug b [])) p6 p7 p8 p9 p10)=some (.rt (.bl true) (vD Sc b (some (We C a l b fs)) (some (We C a' l' b fs)) (some (We C a'' l'' b [])) (some (ug b [])) p6 p7 p8 p9 p10)):=N3 (retS (Gk (sA (i7 rfl (D7 ok f0)) rfl (Fy _ _ _ _))))
 exact⟨We C a'' l'' b [],_,Ig C a'' l'' b,(mN s5).trans ((mN s6).trans ((mN s7).trans s8))⟩
end
end HW
set_option maxRecDepth 100000
namespace HW
open PySem PySem.Spec PyProof.Rows L2
variable{P:Oh}{w:Ot}{K:N_}{mg:Str->N7 N8}{base:OC}{k:Nat}{f:N9}{fd:OV}
abbrev cY:OE:=top 79
theorem hX:i4 ["_law_script","_law_k"] ["_law_script","_law_k"] (e9 cY):=sP
theorem g_(uF:mg "len" = none)(Fn:sr K "_law_cell_at" "_law_cell_at" cY f fd):k6 P w K mg base rV (k+1) f fd ["_law_script","_law_k"] (sQ K bF):=by
 refine ar Fn hX ?_
 intro _ _ _ _ _ _ hr
 refine ak ?_ ?_
 ·refine cT ?_ ?_ bf
  ·refine aF mT (ad 1) ?_
   exact bA iN uF (ac (ad 0) af)
  refine al ?_
  exact ax (ag (ad 0) (ad 1))
 refine al ?_
 exact ax ae
abbrev en:OE:=top 80
theorem wH:i4 ["_law_script","_law_k","_law_drawn_here"] ["_law_script","_law_k"] (e9 en):=sP
theorem iW(uG:m9 P w K mg base k "_law_cell_at" ["_law_script","_law_k"] bF)(Fn:sr K "_law_mixed" "_law_mixed" en f fd):k6 P w K mg base rV (k+1) f fd ["_law_script","_law_k"] (sQ K aR):=by
 refine ar Fn wH ?_
 intro _ _ _ _ _ _ hr
 refine ak ?_ ?_
 ·refine aB ?_ ?_
  ·refine aj aK ?_ ae
   refine aj dg ?_ ae
   refine aj aD ?_ ae
   refine aj aD ?_ ?_
   ·exact ai uG hr (ac (ad 0) (ac (ad 1) af))
   exact aj dg ae (ad 1)
  exact ao 2 wH.nd
 refine al ?_
 refine ax ?_
 refine aj aK ?_ ae
 refine aj aD ?_ (ad 1)
 refine aj aD ?_ ?_
 ·exact aj dg (ad 2) (ad 2)
 exact aj dg ae (ad 2)
abbrev dZ:OE:=top 81
theorem wG:i4 ["_law_number","_law_k","_law_drawn_here"] ["_law_number","_law_k"] (e9 dZ):=sP
theorem jc(Fn:sr K "_law_drawn" "_law_drawn" dZ f fd):k6 P w K mg base rV (k+1) f fd ["_law_number","_law_k"] (sQ K bo):=by
 refine ar Fn wG ?_
 intro _ _ _ _ _ _ hr
 refine ak ?_ ?_
 ·refine aB ?_ ?_
  ·refine aj aK ?_ ae
   refine aj dg ?_ ae
   refine aj aD ?_ ae
   refine aj aD (ad 0) ?_
   exact aj dg ae (ad 1)
  exact ao 2 wG.nd
 refine al ?_
 refine ax ?_
 refine aj aK ?_ ae
 refine aj aD ?_ (ad 1)
 refine aj aD ?_ ?_
 ·exact aj dg (ad 2) (ad 2)
 exact aj dg ae (ad 2)
abbrev eT:OE:=top 82
theorem rJ:i4 ["_law_number","_law_many","_law_deeds","_law_modes","_law_k","_law_drawn_here","_law_rows","_law_j","_law_one","_law_face"] ["_law_number"] (e9 eT):=sP
theorem kh(uu:m9 P w K mg base k "_law_drawn" ["_law_number","_law_k"] bo)(vt:mg "range" = none)(Fn:sr K "_law_book" "_law_book" eT f fd):k6 P w K mg base rV (k+1) f fd ["_law_number"] (sQ K cD):=by
 refine ar Fn rJ ?_
 intro _ _ _ _ _ _ hr
 refine ak ?_ ?_
 ·refine aB ?_ ?_
  ·refine aj aD ae ?_
   exact aj aK (ad 0) ae
  exact ao 1 rJ.nd
 refine ak ?_ ?_
 ·refine aB ?_ ?_
  ·refine aA ?_
   refine ac aG ?_
   refine ac aG ?_
   refine ac aG ?_
   refine ac aG ?_
   refine ac aG ?_
   refine ac aG ?_
   refine ac aG ?_
   refine ac aG ?_
   exact ac aG (ac aG (ac aG (ac aG af)))
  exact ao 2 rJ.nd
 refine ak ?_ ?_
 ·refine aB ?_ ?_
  ·exact aA af
  exact ao 3 rJ.nd
 refine ak ?_ ?_
 ·refine qv PassesOwn.never rfl ?_ ?_ ?_
  ·exact mU vt (ad 1)
  ·exact ao 4 rJ.nd
  refine ak ?_ ?_
  ·refine aB ?_ ?_
   ·refine aj bT ?_ ae
    exact ai uu hr (ac (ad 0) (ac (ad 4) af))
   exact ao 5 rJ.nd
  refine ak ?_ ?_
  ·refine aB ?_ ?_
   ·exact aA af
   exact ao 6 rJ.nd
  refine ak ?_ ?_
  ·refine qv PassesOwn.never rfl ?_ ?_ ?_
   ·exact mU vt ae
   ·exact ao 7 rJ.nd
   refine ak ?_ ?_
   ·refine aB ?_ ?_
    ·refine aj bT ?_ ae
     refine ai uu hr ?_
     refine ac (ad 5) ?_
     refine ac ?_ af
     exact aj aD ae (ad 7)
    exact ao 8 rJ.nd
   refine al ?_
   refine aB ?_ ?_
   ·refine aj aD (ad 6) ?_
    refine aA ?_
    refine ac ?_ af
    refine aA ?_
    refine ac ?_ ?_
    ·refine ag ?_ ?_
     ·refine aj aD (ad 2) ?_
      exact aA (ac aG af)
     exact aj aK (ad 8) ae
    refine ac ?_ af
    refine aj aK ?_ (ad 1)
    exact aj bT (ad 8) ae
   exact ao 6 rJ.nd
  refine ak ?_ ?_
  ·refine aB ?_ ?_
   ·refine ag ?_ ?_
    ·refine aA ?_
     exact ac aG (ac aG (ac aG (ac aG af)))
    exact aj aK (ad 5) ae
   exact ao 9 rJ.nd
  refine al ?_
  refine aB ?_ ?_
  ·refine aj aD (ad 3) ?_
   refine aA ?_
   refine ac ?_ af
   refine aA ?_
   refine ac (ad 9) ?_
   refine ac ?_ (ac (ad 6) af)
   refine dB (eL hr) ?_ ae
   refine aj aK ?_ ae
   exact aj bT (ad 5) ae
  exact ao 3 rJ.nd
 refine al ?_
 refine ax ?_
 refine aA ?_
 refine ac ?_ ?_
 ·refine aj aD ae ?_
  refine aj aK ?_ ?_
  ·exact aj bT (ad 0) ae
  refine ag ?_ ?_
  ·exact aA (ac ae (ac ae af))
  refine aj aK ?_ ae
  exact aj bT (ad 0) ae
 refine ac ?_ (ac (ad 3) af)
 refine ag ?_ ?_
 ·refine aA ?_
  refine ac ae ?_
  exact ac ae (ac ae (ac ae (ac ae af)))
 refine aj aK ?_ ae
 exact aj bT (ad 0) ae
abbrev eJ:OE:=inClass (top 76) 7
theorem jg:i4 ["self"] ["self"] (e9 eJ):=sP
theorem jp{C:Nat}(cl:vI K C)(sM:rK K C "rung")(Fn:sr K "rang" "Watch.rang" eJ f fd):k6 P w K mg base rV (k+1) f fd ["self"] (sQ K (bV C)):=by
 refine ar Fn jg ?_
 intro _ _ _ _ _ _ hr
 refine al ?_
 refine ax ?_
 exact bW cl sM (ad 0)
abbrev fm:OE:=inClass (top 76) 9
theorem ko:i4 ["self"] ["self"] (e9 fm):=sP
theorem ke(A1:mg "tuple" = none){C:Nat}(cl:vI K C)(sN:rK K C "past")(Fn:sr K "row" "Watch.row" fm f fd):k6 P w K mg base rV (k+1) f fd ["self"] (sQ K (cF C)):=by
 refine ar Fn ko ?_
 intro _ _ _ _ _ _ hr
 refine al ?_
 refine ax ?_
 refine il oV A1 ?_
 refine ac ?_ af
 refine jR 0 C ?_
 refine ql (T:=["step"]) rfl ?_ ?_ ?_ (fun C s₃ H₃ fp=>(ag (ad 0) ae)) (z6 (by decide)) (show List.Nodup ((["step"]:List Str)++(["self"]:List Str)) from by decide +kernel)
 ·refine qy ?_
  exact bW cl sN (ad 0)
 ·intro C s₃ H₃ fp
  exact ao 0 (show List.Nodup (["step" ,"self"]:List Str) from by decide +kernel)
 intro C s₃ H₃ fp
 exact pw
abbrev gn:OE:=top 64
theorem yP:i4 ["number","texts"] ["number"] (e9 gn):=sP
theorem mq(w_:mg "reversed" = none)(Am:mg "str" = none)(A2:s_ K mg "BLOCK" et)(Fn:sr K "figures" "figures" gn f fd):k6 P w K mg base rV (k+1) f fd ["number"] (sQ K cx):=by
 refine ar Fn yP ?_
 intro _ _ _ _ _ _ hr
 refine oj 1 yP.nd af ?_
 refine ie ?_ ?_
 ·refine pJ ?_
  refine oz PassesOwn.never ?_
  exact aF qr (ad 0) (au A2)
 refine ie ?_ ?_
 ·refine mj 1 ?_
  exact il pE Am (ac (ad 0) af)
 refine oO ?_
 refine al ?_
 refine ax ?_
 exact oQ rfl w_ aG (ad 1)
abbrev dC:OE:=top 65
theorem iI:i4 ["number"] ["number"] (e9 dC):=sP
theorem iB(uw:m9 P w K mg base k "figures" ["number"] cx)(Fn:sr K "two_figures" "two_figures" dC f fd):k6 P w K mg base rV (k+1) f fd ["number"] (sQ K aN):=by
 refine ar Fn iI ?_
 intro _ _ _ _ _ _ hr
 refine al ?_
 refine ax ?_
 refine rF ?_ (ac ae (ac aG af))
 exact ai uw hr (ac (ad 0) af)
abbrev fh:OE:=top 66
theorem ka:i4 ["hour","minute"] ["hour","minute"] (e9 fh):=sP
theorem jJ(rP:m9 P w K mg base k "two_figures" ["number"] aN)(Fn:sr K "hour_text" "hour_text" fh f fd):k6 P w K mg base rV (k+1) f fd ["hour","minute"] (sQ K bH):=by
 refine ar Fn ka ?_
 intro _ _ _ _ _ _ hr
 refine al ?_
 refine ax ?_
 refine aj aD ?_ ?_
 ·refine aj aD ?_ aG
  exact ai rP hr (ac (ad 0) af)
 exact ai rP hr (ac (ad 1) af)
abbrev fj:OE:=top 68
theorem xJ:i4 ["state","clock"] ["state"] (e9 fj):=sP
theorem ki(tL:m9 P w K mg base k "hour_text" ["hour","minute"] bH)(rP:m9 P w K mg base k "two_figures" ["number"] aN)(rT:s_ K mg "CLOCK" aV)(Fn:sr K "time_text" "time_text" fj f fd):k6 P w K mg base rV (k+1) f fd ["state"] (sQ K cC):=by
 refine ar Fn xJ ?_
 intro _ _ _ _ _ _ hr
 refine ak ?_ ?_
 ·refine aB (ag (ad 0) (au rT)) ?_
  exact ao 1 xJ.nd
 refine al ?_
 refine ax ?_
 refine aj aD ?_ ?_
 ·refine aj aD ?_ aG
  refine ai tL hr ?_
  refine ac ?_ ?_
  ·exact aj bT (ad 1) ae
  refine ac ?_ af
  refine aj aK ?_ ae
  exact aj bT (ad 1) ae
 refine ai rP hr ?_
 refine ac ?_ af
 exact aj aK (ad 1) ae
abbrev dY:OE:=top 69
theorem wL:i4 ["state","alarm"] ["state"] (e9 dY):=sP
theorem jr(tL:m9 P w K mg base k "hour_text" ["hour","minute"] bH)(rX:s_ K mg "ALARM" a_)(Fn:sr K "alarm_text" "alarm_text" dY f fd):k6 P w K mg base rV (k+1) f fd ["state"] (sQ K bZ):=by
 refine ar Fn wL ?_
 intro _ _ _ _ _ _ hr
 refine ak ?_ ?_
 ·refine aB (ag (ad 0) (au rX)) ?_
  exact ao 1 wL.nd
 refine al ?_
 refine ax ?_
 refine aj aD ?_ ?_
 ·refine ai tL hr ?_
  exact ac (ag (ad 1) ae) (ac (ag (ad 1) ae) af)
 refine eZ ?_ aG aG
 exact dA (ag (ad 1) ae)
abbrev dq:OE:=top 67
theorem iQ:i4 ["seconds"] ["seconds"] (e9 dq):=sP
theorem iA(uw:m9 P w K mg base k "figures" ["number"] cx)(rP:m9 P w K mg base k "two_figures" ["number"] aN)(Fn:sr K "minute_text" "minute_text" dq f fd):k6 P w K mg base rV (k+1) f fd ["seconds"] (sQ K bp):=by
 refine ar Fn iQ ?_
 intro _ _ _ _ _ _ hr
 refine al ?_
 refine ax ?_
 refine aj aD ?_ ?_
 ·refine aj aD ?_ aG
  refine ai uw hr ?_
  refine ac ?_ af
  exact aj bT (ad 0) ae
 refine ai rP hr ?_
 refine ac ?_ af
 exact aj aK (ad 0) ae
abbrev eQ:OE:=top 70
theorem vh:i4 ["state","laps","kept"] ["state"] (e9 eQ):=sP
theorem jQ(sE:m9 P w K mg base k "minute_text" ["seconds"] bp)(uF:mg "len" = none)(Am:mg "str" = none)(tJ:s_ K mg "LAPS" bS)(Fn:sr K "laps_text" "laps_text" eQ f fd):k6 P w K mg base rV (k+1) f fd ["state"] (sQ K cH):=by
 refine ar Fn vh ?_
 intro _ _ _ _ _ _ hr
 refine ak ?_ ?_
 ·refine aB (ag (ad 0) (au tJ)) ?_
  exact ao 1 vh.nd
 refine ak ?_ ?_
 ·refine aB ?_ ?_
  ·exact bA iN uF (ac (ag (ad 1) ae) af)
  exact ao 2 vh.nd
 refine al ?_
 refine ax ?_
 refine aj aD ?_ ?_
 ·exact ai sE hr (ac (ag (ad 1) ae) af)
 refine eZ ?_ ?_ aG
 ·exact aF f_ (ad 2) ae
 refine aj aD aG ?_
 exact il pE Am (ac (ad 2) af)
abbrev el:OE:=top 71
theorem jn:i4 ["state"] ["state"] (e9 el):=sP
theorem jq(sE:m9 P w K mg base k "minute_text" ["seconds"] bp)(q5:s_ K mg "COUNT" aQ)(Fn:sr K "count_text" "count_text" el f fd):k6 P w K mg base rV (k+1) f fd ["state"] (sQ K cb):=by
 refine ar Fn jn ?_
 intro _ _ _ _ _ _ hr
 refine al ?_
 refine ax ?_
 exact ai sE hr (ac (ag (ag (ad 0) (au q5)) ae) af)
abbrev km:OE:=top 62
theorem yZ:i4 ["book","state","face","face_text"] ["book","state"] (e9 km):=sP
theorem pD(vv:m9 P w K mg base k "alarm_text" ["state"] bZ)(vw:m9 P w K mg base k "count_text" ["state"] cb)(v8:m9 P w K mg base k "laps_text" ["state"] cH)(v9:m9 P w K mg base k "time_text" ["state"] cC)(sO:s_ K mg "MODE" bL)(u0:s_ K mg "RING" ek)(vy:Bq P w K mg base k "FACE_TEXTS" tS)(Fn:sr K "shown" "shown" km f fd):k6 P w K mg base rV (k+1) f fd ["book","state"] (sQ K ft):=by
 refine ar Fn yZ ?_
 intro _ _ _ _ _ _ hr
 refine ak ?_ ?_
 ·refine aB ?_ ?_
  ·exact ag (ag (ag (ad 0) ae) (ag (ad 1) (au sO))) ae
  exact ao 2 yZ.nd
 refine qm 3 yZ.nd vy (ad 2) ?_
 intro fa G_ hF
 refine ES ?_
 refine Ha ?_
 refine yX ?_ ?_
 ·exact I_ (ad 2)
 refine yX ?_ ?_
 ·exact zT hF hr (ac (ad 1) af)
 refine E9 ?_
 refine ac ?_ af
 exact dB f_ (ag (ad 1) (au u0)) ae
abbrev du:OE:=inClass (top 76) 5
theorem iH:i4 ["self"] ["self"] (e9 du):=sP
theorem iq{C:Nat}(u4:m9 P w K mg base k "shown_going" ["book","state"] ft)(cl:vI K C)(u5:rK K C "book")(n5:rK K C "present")(Fn:sr K "shown" "Watch.shown" du f fd):k6 P w K mg base rV (k+1) f fd ["self"] (sQ K (bP C)):=by
 refine ar Fn iH ?_
 intro _ _ _ _ _ _ hr
 refine al ?_
 refine ax ?_
 refine ai u4 hr ?_
 refine ac ?_ ?_
 ·exact bW cl u5 (ad 0)
 refine ac ?_ af
 exact bW cl n5 (ad 0)
abbrev dt:OE:=inClass (top 76) 6
theorem iy:i4 ["self"] ["self"] (e9 dt):=sP
theorem iJ{C:Nat}(cl:vI K C)(n5:rK K C "present")(Fn:sr K "state" "Watch.state" dt f fd):k6 P w K mg base rV (k+1) f fd ["self"] (sQ K (bN C)):=by
 refine ar Fn iy ?_
 intro _ _ _ _ _ _ hr
 refine al ?_
 refine ax ?_
 exact bW cl n5 (ad 0)
abbrev cq:OE:=top 86
theorem gf:i4 ["_law_thing"] ["_law_thing"] (e9 cq):=sP
theorem fY{C:Nat}(cl:vI K C)(CU:yl P w K mg base k C "rang" ["self"] (bV C))(Ga:yl P w K mg base k C "row" ["self"] (cF C))(A3:yl P w K mg base k C "shown" ["self"] (bP C))(A4:yl P w K mg base k C "state" ["self"] (bN C))(Fn:sr K "_law_all_asked" "_law_all_asked" cq f fd):k6 P w K mg base rV (k+1) f fd ["_law_thing"] (sQ K (ay C)):=by
 refine ar Fn gf ?_
 intro _ _ _ _ _ _ hr
 refine al ?_
 refine ax ?_
 refine aA ?_
 refine ac ?_ ?_
 ·exact hZ cl A4 hr (ad 0)
 refine ac ?_ ?_
 ·exact hZ cl A3 hr (ad 0)
 refine ac ?_ ?_
 ·exact hZ cl CU hr (ad 0)
 refine ac ?_ af
 exact hZ cl Ga hr (ad 0)
abbrev dS:OE:=top 83
theorem uR:i4 ["_law_number","_law_button","_law_kind"] ["_law_number"] (e9 dS):=sP
theorem jk(Fn:sr K "_law_event" "_law_event" dS f fd):k6 P w K mg base rV (k+1) f fd ["_law_number"] (sQ K bK):=by
 refine ar Fn uR ?_
 intro _ _ _ _ _ _ hr
 refine ak ?_ ?_
 ·refine aB ?_ ?_
  ·refine ag aG ?_
   refine aj aK ?_ ae
   exact aj bT (ad 0) ae
  exact ao 1 uR.nd
 refine ak ?_ ?_
 ·refine aB ?_ ?_
  ·exact aj aK (ad 0) ae
  exact ao 2 uR.nd
 refine ak ?_ ?_
 ·refine cT ?_ ?_ bf
  ·exact aF mT (ad 2) ae
  refine al ?_
  refine ax ?_
  exact aA (ac aG (ac (ad 1) af))
 refine ak ?_ ?_
 ·refine cT ?_ ?_ bf
  ·exact aF mT (ad 2) ae
  refine al ?_
  refine ax ?_
  exact aA (ac aG (ac (ad 1) af))
 refine al ?_
 refine ax ?_
 refine aA ?_
 refine ac aG ?_
 refine ac ?_ af
 refine aj aD ae ?_
 refine aj aK ?_ ?_
 ·exact aj bT (ad 0) ae
 refine ag ?_ ?_
 ·exact aA (ac ae (ac ae (ac ae af)))
 refine aj aK ?_ ae
 exact aj bT (ad 0) ae
abbrev ce:OE:=top 85
theorem tF:i4 ["_law_deed","_law_found"] ["_law_deed"] (e9 ce):=sP
theorem fz{ca:Nat->N9}{Wz:N9}(EK:EU K mg ca Wz)(Fn:sr K "_law_twice_told" "_law_twice_told" ce f fd):k6 P w K mg base rV (k+1) f fd ["_law_deed"] (yR P w K mg base ca k k9):=by
 refine oN Fn tF rfl (by decide) ?_
 intro _ _ _ _ _ _ hr
 exact(nN 0 1 EK hr rfl rfl rfl rfl rfl tF.nd (fun pins ea oe c hc2 hcl=>(al (aB (aA (ac aG (ac aY af))) (ao 1 tF.nd)))) wU (hlt:=(by decide:1<2)))
abbrev gm:OE:=top 40
theorem lC:i4 ["laps","many"] ["laps","many"] (e9 gm):=sP
theorem lU(Fn:sr K "laps_on" "laps_on" gm f fd):k6 P w K mg base rV (k+1) f fd ["laps","many"] (sQ K dO):=by
 refine ar Fn lC ?_
 intro _ _ _ _ _ _ hr
 refine al ?_
 refine ax ?_
 refine eZ ?_ ?_ (ad 0)
 ·exact dA (ag (ad 0) ae)
 refine aA ?_
 refine ac ?_ (ac dH (ac (ag (ad 0) ae) af))
 exact aj aD (ag (ad 0) ae) (ad 1)
abbrev fL:OE:=top 41
theorem yk:i4 ["count","many","left"] ["count","many"] (e9 fL):=sP
theorem kG(uo:mg "max" = none)(Fn:sr K "count_on" "count_on" fL f fd):k6 P w K mg base rV (k+1) f fd ["count","many"] (sQ K da):=by
 refine ar Fn yk ?_
 intro _ _ _ _ _ _ hr
 refine ak ?_ ?_
 ·refine cT ?_ ?_ bf
  ·refine jW ?_
   exact dA (ag (ad 0) ae)
  refine al ?_
  exact ax (ad 0)
 refine ak ?_ ?_
 ·refine aB ?_ ?_
  ·refine bA (iL rfl) uo ?_
   refine ac ae ?_
   refine ac ?_ af
   exact aj bR (ag (ad 0) ae) (ad 1)
  exact ao 2 yk.nd
 refine al ?_
 refine ax ?_
 refine aA ?_
 refine ac (ag (ad 0) ae) ?_
 refine ac (ag (ad 0) ae) ?_
 refine ac (ad 2) ?_
 refine ac ?_ af
 exact dB f_ (ad 2) ae
abbrev dU:OE:=top 36
theorem uX:i4 ["state","alarm","second"] ["state"] (e9 dU):=sP
theorem jo(rX:s_ K mg "ALARM" a_)(rT:s_ K mg "CLOCK" aV)(vH:s_ K mg "DAY" eM)(Fn:sr K "alarm_tick" "alarm_tick" dU f fd):k6 P w K mg base rV (k+1) f fd ["state"] (sQ K aS):=by
 refine ar Fn uX ?_
 intro _ _ _ _ _ _ hr
 refine ak ?_ ?_
 ·refine aB (ag (ad 0) (au rX)) ?_
  exact ao 1 uX.nd
 refine ak ?_ ?_
 ·refine cT ?_ ?_ bf
  ·refine jW ?_
   exact dA (ag (ad 1) ae)
  refine al ?_
  exact ax aY
 refine ak ?_ ?_
 ·refine aB ?_ ?_
  ·refine aj aD ?_ ?_
   ·exact aj dg ae (ag (ad 1) ae)
   exact aj dg ae (ag (ad 1) ae)
  exact ao 2 uX.nd
 refine al ?_
 refine ax ?_
 refine aj aD ?_ ae
 refine aj aK ?_ (au vH)
 refine aj bR ?_ ae
 exact aj bR (ad 2) (ag (ad 0) (au rT))
abbrev eI:OE:=top 37
theorem wJ:i4 ["state","count"] ["state"] (e9 eI):=sP
theorem jl(q5:s_ K mg "COUNT" aQ)(Fn:sr K "count_tick" "count_tick" eI f fd):k6 P w K mg base rV (k+1) f fd ["state"] (sQ K aZ):=by
 refine ar Fn wJ ?_
 intro _ _ _ _ _ _ hr
 refine ak ?_ ?_
 ·refine aB (ag (ad 0) (au q5)) ?_
  exact ao 1 wJ.nd
 refine al ?_
 refine ax ?_
 refine eZ ?_ (ag (ad 1) ae) aY
 exact dA (ag (ad 1) ae)
abbrev eY:OE:=top 38
theorem ut:i4 ["state","many","alarm","count","ticks"] ["state","many"] (e9 eY):=sP
theorem jO(sU:m9 P w K mg base k "alarm_tick" ["state"] aS)(sW:m9 P w K mg base k "count_tick" ["state"] aZ)(uo:mg "max" = none)(vH:s_ K mg "DAY" eM)(Fn:sr K "last_ring" "last_ring" eY f fd):k6 P w K mg base rV (k+1) f fd ["state","many"] (sQ K cG):=by
 refine ar Fn ut ?_
 intro _ _ _ _ _ _ hr
 refine ak ?_ ?_
 ·refine aB ?_ ?_
  ·exact ai sU hr (ac (ad 0) af)
  exact ao 2 ut.nd
 refine ak ?_ ?_
 ·refine aB ?_ ?_
  ·exact ai sW hr (ac (ad 0) af)
  exact ao 3 ut.nd
 refine oj 4 ut.nd af ?_
 refine ie ?_ ?_
 ·refine qj ?_ ?_ m_
  ·refine iD ?_
   refine pC ?_ ?_
   ·exact aF dJ (ad 2) aY
   refine mB ?_
   exact aF qo (ad 2) (ad 1)
  refine mG ?_
  refine mj 4 ?_
  refine aj bR (ad 1) ?_
  refine aj aK ?_ (au vH)
  exact aj bR (ad 1) (ad 2)
 refine ie ?_ ?_
 ·refine qj ?_ ?_ m_
  ·refine iD ?_
   refine pC ?_ ?_
   ·exact aF dJ (ad 3) aY
   refine mB ?_
   exact aF qo (ad 3) (ad 1)
  refine mG ?_
  exact mj 4 (ad 3)
 refine oO ?_
 refine al ?_
 refine ax ?_
 exact pV rfl uo (ad 4)
abbrev gB:OE:=top 42
theorem yS:i4 ["state","many","last"] ["state","many"] (e9 gB):=sP
theorem mr(v_:m9 P w K mg base k "last_ring" ["state","many"] cG)(uo:mg "max" = none)(wa:s_ K mg "FULL_RING" eU)(u0:s_ K mg "RING" ek)(Fn:sr K "ring_on" "ring_on" gB f fd):k6 P w K mg base rV (k+1) f fd ["state","many"] (sQ K dN):=by
 refine ar Fn yS ?_
 intro _ _ _ _ _ _ hr
 refine ak ?_ ?_
 ·refine aB ?_ ?_
  ·exact ai v_ hr (ac (ad 0) (ac (ad 1) af))
  exact ao 2 yS.nd
 refine ak ?_ ?_
 ·refine cT ?_ ?_ bf
  ·exact aF fU (ad 2) aY
  refine al ?_
  refine ax ?_
  refine bA (iL rfl) uo ?_
  refine ac ae ?_
  refine ac ?_ af
  exact aj bR (ag (ad 0) (au u0)) (ad 1)
 refine al ?_
 refine ax ?_
 refine bA (iL rfl) uo ?_
 refine ac ae ?_
 refine ac ?_ af
 refine aj bR (au wa) ?_
 exact aj bR (ad 1) (ad 2)
abbrev gr:OE:=top 43
theorem lF:i4 ["held","many"] ["held","many"] (e9 gr):=sP
theorem mi(Fn:sr K "held_on" "held_on" gr f fd):k6 P w K mg base rV (k+1) f fd ["held","many"] (sQ K dL):=by
 refine ar Fn lF ?_
 intro _ _ _ _ _ _ hr
 refine ak ?_ ?_
 ·refine cT ?_ ?_ bf
  ·refine iD ?_
   refine jF ?_ ?_
   ·exact aF fU (ad 0) aY
   refine iK ?_
   exact aF fU (ag (ad 0) ae) aY
  refine al ?_
  exact ax (ad 0)
 refine al ?_
 refine ax ?_
 refine aA ?_
 refine ac (ag (ad 0) ae) ?_
 refine ac ?_ af
 exact aj aD (ag (ad 0) ae) (ad 1)
abbrev cJ:OE:=top 44
theorem gG:i4 ["book","state"] ["book","state"] (e9 cJ):=sP
theorem gA(uo:mg "max" = none)(t8:s_ K mg "IDLE" cW)(Fn:sr K "ticks_to_back" "ticks_to_back" cJ f fd):k6 P w K mg base rV (k+1) f fd ["book","state"] (sQ K aX):=by
 refine ar Fn gG ?_
 intro _ _ _ _ _ _ hr
 refine al ?_
 refine ax ?_
 refine bA (iL rfl) uo ?_
 refine ac ae ?_
 refine ac ?_ af
 exact aj bR (ag (ad 0) ae) (ag (ad 1) (au t8))
abbrev gD:OE:=top 45
theorem y8:i4 ["book","state","many","ticks"] ["book","state","many"] (e9 gD):=sP
theorem mm(si:m9 P w K mg base k "ticks_to_back" ["book","state"] aX)(rN:s_ K mg "HELD" bg)(t8:s_ K mg "IDLE" cW)(Fn:sr K "idle_on" "idle_on" gD f fd):k6 P w K mg base rV (k+1) f fd ["book","state","many"] (sQ K dD):=by
 refine ar Fn y8 ?_
 intro _ _ _ _ _ _ hr
 refine ak ?_ ?_
 ·refine cT ?_ ?_ bf
  ·refine iD ?_
   refine jF ?_ ?_
   ·exact aF dJ (ag (ad 1) (au rN)) aY
   refine iK ?_
   exact aF (eL hr) (ag (ad 0) ae) ae
  refine al ?_
  exact ax (ag (ad 1) (au t8))
 refine ak ?_ ?_
 ·refine aB ?_ ?_
  ·exact ai si hr (ac (ad 0) (ac (ad 1) af))
  exact ao 3 y8.nd
 refine al ?_
 refine ax ?_
 refine eZ ?_ ?_ ?_
 ·exact aF mT (ad 2) (ad 3)
 ·exact aj aD (ag (ad 1) (au t8)) (ad 2)
 refine aj aK ?_ (ag (ad 0) ae)
 exact aj bR (ad 2) (ad 3)
abbrev gl:OE:=top 46
theorem lL:i4 ["book","state","many"] ["book","state","many"] (e9 gl):=sP
theorem lK(xb:m9 P w K mg base k "count_on" ["count","many"] da)(x9:m9 P w K mg base k "held_on" ["held","many"] dL)(x_:m9 P w K mg base k "idle_on" ["book","state","many"] dD)(ya:m9 P w K mg base k "laps_on" ["laps","many"] dO)(yb:m9 P w K mg base k "ring_on" ["state","many"] dN)(rX:s_ K mg "ALARM" a_)(rT:s_ K mg "CLOCK" aV)(q5:s_ K mg "COUNT" aQ)(vH:s_ K mg "DAY" eM)(rN:s_ K mg "HELD" bg)(tJ:s_ K mg "LAPS" bS)(sO:s_ K mg "MODE" bL)(Fn:sr K "counted" "counted" gl f fd):k6 P w K mg base rV (k+1) f fd ["book","state","many"] (sQ K cg):=by
 refine ar Fn lL ?_
 intro _ _ _ _ _ _ hr
 refine al ?_
 refine ax ?_
 refine aA ?_
 refine ac (ag (ad 1) (au sO)) ?_
 refine ac ?_ ?_
 ·refine aj aK ?_ (au vH)
  exact aj aD (ag (ad 1) (au rT)) (ad 2)
 refine ac (ag (ad 1) (au rX)) ?_
 refine ac ?_ ?_
 ·refine ai ya hr ?_
  exact ac (ag (ad 1) (au tJ)) (ac (ad 2) af)
 refine ac ?_ ?_
 ·refine ai xb hr ?_
  exact ac (ag (ad 1) (au q5)) (ac (ad 2) af)
 refine ac ?_ ?_
 ·exact ai yb hr (ac (ad 1) (ac (ad 2) af))
 refine ac ?_ ?_
 ·refine ai x9 hr ?_
  exact ac (ag (ad 1) (au rN)) (ac (ad 2) af)
 refine ac ?_ af
 exact ai x_ hr (ac (ad 0) (ac (ad 1) (ac (ad 2) af)))
abbrev e_:OE:=top 47
theorem jH:i4 ["book","state"] ["book","state"] (e9 e_):=sP
theorem j8(sO:s_ K mg "MODE" bL)(Fn:sr K "goes_back" "goes_back" e_ f fd):k6 P w K mg base rV (k+1) f fd ["book","state"] (sQ K cE):=by
 refine ar Fn jH ?_
 intro _ _ _ _ _ _ hr
 refine al ?_
 refine ax ?_
 refine iE ?_ ?_
 ·exact dB f_ (ag (ad 0) ae) ae
 refine iE ?_ ?_
 ·exact dB (qi hr) (ag (ad 1) (au sO)) ae
 refine jX ?_
 refine kr ?_
 exact ag (ag (ag (ad 0) ae) (ag (ad 1) (au sO))) ae
abbrev cI:OE:=top 48
theorem gM:i4 ["book","state"] ["book","state"] (e9 cI):=sP
theorem gK(uo:mg "max" = none)(rN:s_ K mg "HELD" bg)(Fn:sr K "ticks_to_long" "ticks_to_long" cI f fd):k6 P w K mg base rV (k+1) f fd ["book","state"] (sQ K bz):=by
 refine ar Fn gM ?_
 intro _ _ _ _ _ _ hr
 refine al ?_
 refine ax ?_
 refine bA (iL rfl) uo ?_
 refine ac ae ?_
 refine ac ?_ af
 exact aj bR (ag (ad 0) ae) (ag (ag (ad 1) (au rN)) ae)
abbrev eX:OE:=top 49
theorem xn:i4 ["book","state","held"] ["book","state"] (e9 eX):=sP
theorem kx(wc:m9 P w K mg base k "goes_back" ["book","state"] cE)(si:m9 P w K mg base k "ticks_to_back" ["book","state"] aX)(uk:m9 P w K mg base k "ticks_to_long" ["book","state"] bz)(rN:s_ K mg "HELD" bg)(Fn:sr K "turn_tick" "turn_tick" eX f fd):k6 P w K mg base rV (k+1) f fd ["book","state"] (sQ K bJ):=by
 refine ar Fn xn ?_
 intro _ _ _ _ _ _ hr
 refine ak ?_ ?_
 ·refine aB (ag (ad 1) (au rN)) ?_
  exact ao 2 xn.nd
 refine ak ?_ ?_
 ·refine cT ?_ ?_ bf
  ·exact aF fU (ad 2) aY
  refine al ?_
  refine ax ?_
  refine eZ ?_ ?_ aY
  ·refine dA ?_
   exact ai wc hr (ac (ad 0) (ac (ad 1) af))
  exact ai si hr (ac (ad 0) (ac (ad 1) af))
 refine al ?_
 refine ax ?_
 refine eZ ?_ aY ?_
 ·exact aF fU (ag (ad 2) ae) aY
 exact ai uk hr (ac (ad 0) (ac (ad 1) af))
abbrev oa:OE:=top 16
theorem q_:i4 ["state","place","part"] ["state","place","part"] (e9 oa):=sP
theorem qz(Fn:sr K "put" "put" oa f fd):k6 P w K mg base rV (k+1) f fd ["state","place","part"] (sQ K aH):=by
 refine ar Fn q_ ?_
 intro _ _ _ _ _ _ hr
 refine al ?_
 refine ax ?_
 refine aj aD ?_ ?_
 ·refine aj aD ?_ ?_
  ·refine kU (ad 0) na ?_
   exact mC (ad 1)
  exact aA (ac (ad 2) af)
 refine kU (ad 0) ?_ na
 refine mC ?_
 exact aj aD (ad 1) ae
abbrev gN:OE:=top 18
theorem lG:i4 ["state"] ["state"] (e9 gN):=sP
theorem mz(Fn:sr K "nothing" "nothing" gN f fd):k6 P w K mg base rV (k+1) f fd ["state"] (sQ K cS):=by
 refine ar Fn lG ?_
 intro _ _ _ _ _ _ hr
 refine al ?_
 exact ax (ad 0)
abbrev gq:OE:=top 19
theorem l_:i4 ["state"] ["state"] (e9 gq):=sP
theorem lD(n9:m9 P w K mg base k "put" ["state","place","part"] aH)(rT:s_ K mg "CLOCK" aV)(Fn:sr K "hour_on" "hour_on" gq f fd):k6 P w K mg base rV (k+1) f fd ["state"] (sQ K cR):=by
 refine ar Fn l_ ?_
 intro _ _ _ _ _ _ hr
 refine al ?_
 refine ax ?_
 refine ai n9 hr ?_
 refine ac (ad 0) ?_
 refine ac (au rT) ?_
 refine ac ?_ af
 refine aj aK ?_ ae
 exact aj aD (ag (ad 0) (au rT)) ae
abbrev eR:OE:=top 20
theorem vi:i4 ["state","clock","within"] ["state"] (e9 eR):=sP
theorem jS(n9:m9 P w K mg base k "put" ["state","place","part"] aH)(rT:s_ K mg "CLOCK" aV)(Fn:sr K "minute_on" "minute_on" eR f fd):k6 P w K mg base rV (k+1) f fd ["state"] (sQ K bU):=by
 refine ar Fn vi ?_
 intro _ _ _ _ _ _ hr
 refine ak ?_ ?_
 ·refine aB (ag (ad 0) (au rT)) ?_
  exact ao 1 vi.nd
 refine ak ?_ ?_
 ·refine aB ?_ ?_
  ·refine aj aK ?_ ae
   refine aj aD ?_ ae
   exact aj aK (ad 1) ae
  exact ao 2 vi.nd
 refine al ?_
 refine ax ?_
 refine ai n9 hr ?_
 refine ac (ad 0) ?_
 refine ac (au rT) ?_
 refine ac ?_ af
 refine aj aD ?_ (ad 2)
 refine aj bR (ad 1) ?_
 exact aj aK (ad 1) ae
abbrev gC:OE:=top 21
theorem lE:i4 ["state"] ["state"] (e9 gC):=sP
theorem lV(n9:m9 P w K mg base k "put" ["state","place","part"] aH)(rT:s_ K mg "CLOCK" aV)(Fn:sr K "to_zero" "to_zero" gC f fd):k6 P w K mg base rV (k+1) f fd ["state"] (sQ K cP):=by
 refine ar Fn lE ?_
 intro _ _ _ _ _ _ hr
 refine al ?_
 refine ax ?_
 refine ai n9 hr ?_
 refine ac (ad 0) ?_
 refine ac (au rT) ?_
 refine ac ?_ af
 refine aj bR (ag (ad 0) (au rT)) ?_
 exact aj aK (ag (ad 0) (au rT)) ae
abbrev cL:OE:=top 22
theorem vc:i4 ["state","alarm"] ["state"] (e9 cL):=sP
theorem gv(n9:m9 P w K mg base k "put" ["state","place","part"] aH)(rX:s_ K mg "ALARM" a_)(Fn:sr K "alarm_hour_on" "alarm_hour_on" cL f fd):k6 P w K mg base rV (k+1) f fd ["state"] (sQ K bi):=by
 refine ar Fn vc ?_
 intro _ _ _ _ _ _ hr
 refine ak ?_ ?_
 ·refine aB (ag (ad 0) (au rX)) ?_
  exact ao 1 vc.nd
 refine al ?_
 refine ax ?_
 refine ai n9 hr ?_
 refine ac (ad 0) ?_
 refine ac (au rX) ?_
 refine ac ?_ af
 refine aA ?_
 refine ac ?_ ?_
 ·refine aj aK ?_ ae
  exact aj aD (ag (ad 1) ae) ae
 exact ac (ag (ad 1) ae) (ac (ag (ad 1) ae) af)
abbrev b_:OE:=top 23
theorem uy:i4 ["state","alarm"] ["state"] (e9 b_):=sP
theorem fH(n9:m9 P w K mg base k "put" ["state","place","part"] aH)(rX:s_ K mg "ALARM" a_)(Fn:sr K "alarm_minute_on" "alarm_minute_on" b_ f fd):k6 P w K mg base rV (k+1) f fd ["state"] (sQ K aW):=by
 refine ar Fn uy ?_
 intro _ _ _ _ _ _ hr
 refine ak ?_ ?_
 ·refine aB (ag (ad 0) (au rX)) ?_
  exact ao 1 uy.nd
 refine al ?_
 refine ax ?_
 refine ai n9 hr ?_
 refine ac (ad 0) ?_
 refine ac (au rX) ?_
 refine ac ?_ af
 refine aA ?_
 refine ac (ag (ad 1) ae) ?_
 refine ac ?_ (ac (ag (ad 1) ae) af)
 refine aj aK ?_ ae
 exact aj aD (ag (ad 1) ae) ae
abbrev de:OE:=top 24
theorem vB:i4 ["state","alarm"] ["state"] (e9 de):=sP
theorem gZ(n9:m9 P w K mg base k "put" ["state","place","part"] aH)(rX:s_ K mg "ALARM" a_)(Fn:sr K "alarm_turned" "alarm_turned" de f fd):k6 P w K mg base rV (k+1) f fd ["state"] (sQ K bu):=by
 refine ar Fn vB ?_
 intro _ _ _ _ _ _ hr
 refine ak ?_ ?_
 ·refine aB (ag (ad 0) (au rX)) ?_
  exact ao 1 vB.nd
 refine al ?_
 refine ax ?_
 refine ai n9 hr ?_
 refine ac (ad 0) ?_
 refine ac (au rX) ?_
 refine ac ?_ af
 refine aA ?_
 refine ac (ag (ad 1) ae) ?_
 refine ac (ag (ad 1) ae) ?_
 refine ac ?_ af
 exact kr (ag (ad 1) ae)
abbrev dw:OE:=top 25
theorem vU:i4 ["state","laps"] ["state"] (e9 dw):=sP
theorem iG(n9:m9 P w K mg base k "put" ["state","place","part"] aH)(tJ:s_ K mg "LAPS" bS)(Fn:sr K "laps_turned" "laps_turned" dw f fd):k6 P w K mg base rV (k+1) f fd ["state"] (sQ K bC):=by
 refine ar Fn vU ?_
 intro _ _ _ _ _ _ hr
 refine ak ?_ ?_
 ·refine aB (ag (ad 0) (au tJ)) ?_
  exact ao 1 vU.nd
 refine al ?_
 refine ax ?_
 refine ai n9 hr ?_
 refine ac (ad 0) ?_
 refine ac (au tJ) ?_
 refine ac ?_ af
 refine aA ?_
 refine ac (ag (ad 1) ae) ?_
 refine ac ?_ (ac (ag (ad 1) ae) af)
 exact kr (ag (ad 1) ae)
abbrev fE:OE:=top 26
theorem yg:i4 ["state","laps"] ["state"] (e9 fE):=sP
theorem la(n9:m9 P w K mg base k "put" ["state","place","part"] aH)(uF:mg "len" = none)(tJ:s_ K mg "LAPS" bS)(we:s_ K mg "MOST_KEPT" eS)(Fn:sr K "lap_kept" "lap_kept" fE f fd):k6 P w K mg base rV (k+1) f fd ["state"] (sQ K cU):=by
 refine ar Fn yg ?_
 intro _ _ _ _ _ _ hr
 refine ak ?_ ?_
 ·refine aB (ag (ad 0) (au tJ)) ?_
  exact ao 1 yg.nd
 refine ak ?_ ?_
 ·refine cT ?_ ?_ bf
  ·refine jW ?_
   exact dA (ag (ad 1) ae)
  refine al ?_
  refine ax ?_
  refine ai n9 hr ?_
  refine ac (ad 0) ?_
  refine ac (au tJ) ?_
  refine ac ?_ af
  refine aA ?_
  refine ac ae ?_
  refine ac dH ?_
  refine ac ?_ af
  exact aA af
 refine ak ?_ ?_
 ·refine cT ?_ ?_ bf
  ·refine aF qr ?_ (au we)
   exact bA iN uF (ac (ag (ad 1) ae) af)
  refine al ?_
  exact ax (ad 0)
 refine al ?_
 refine ax ?_
 refine ai n9 hr ?_
 refine ac (ad 0) ?_
 refine ac (au tJ) ?_
 refine ac ?_ af
 refine aA ?_
 refine ac (ag (ad 1) ae) ?_
 refine ac dH ?_
 refine ac ?_ af
 refine aj aD (ag (ad 1) ae) ?_
 exact aA (ac (ag (ad 1) ae) af)
abbrev iV:OE:=top 27
theorem nA:i4 ["state","minute","second"] ["state","minute","second"] (e9 iV):=sP
theorem nq(n9:m9 P w K mg base k "put" ["state","place","part"] aH)(q5:s_ K mg "COUNT" aQ)(Fn:sr K "set_to" "set_to" iV f fd):k6 P w K mg base rV (k+1) f fd ["state","minute","second"] (sQ K bM):=by
 refine ar Fn nA ?_
 intro _ _ _ _ _ _ hr
 refine ak ?_ ?_
 ·refine cT ?_ ?_ bf
  ·exact dA (ag (ag (ad 0) (au q5)) ae)
  refine al ?_
  exact ax (ad 0)
 refine al ?_
 refine ax ?_
 refine ai n9 hr ?_
 refine ac (ad 0) ?_
 refine ac (au q5) ?_
 refine ac ?_ af
 refine aA ?_
 refine ac (ad 1) ?_
 refine ac (ad 2) ?_
 refine ac ?_ (ac dH af)
 refine aj aD ?_ (ad 2)
 exact aj dg ae (ad 1)
abbrev bX:OE:=top 28
theorem uA:i4 ["state","count"] ["state"] (e9 bX):=sP
theorem fG(tT:m9 P w K mg base k "set_to" ["state","minute","second"] bM)(q5:s_ K mg "COUNT" aQ)(Fn:sr K "count_minute_on" "count_minute_on" bX f fd):k6 P w K mg base rV (k+1) f fd ["state"] (sQ K aU):=by
 refine ar Fn uA ?_
 intro _ _ _ _ _ _ hr
 refine ak ?_ ?_
 ·refine aB (ag (ad 0) (au q5)) ?_
  exact ao 1 uA.nd
 refine al ?_
 refine ax ?_
 refine ai tT hr ?_
 refine ac (ad 0) ?_
 refine ac ?_ (ac (ag (ad 1) ae) af)
 refine aj aK ?_ ae
 exact aj aD (ag (ad 1) ae) ae
abbrev bY:OE:=top 29
theorem uC:i4 ["state","count"] ["state"] (e9 bY):=sP
theorem fK(tT:m9 P w K mg base k "set_to" ["state","minute","second"] bM)(q5:s_ K mg "COUNT" aQ)(Fn:sr K "count_second_on" "count_second_on" bY f fd):k6 P w K mg base rV (k+1) f fd ["state"] (sQ K aT):=by
 refine ar Fn uC ?_
 intro _ _ _ _ _ _ hr
 refine ak ?_ ?_
 ·refine aB (ag (ad 0) (au q5)) ?_
  exact ao 1 uC.nd
 refine al ?_
 refine ax ?_
 refine ai tT hr ?_
 refine ac (ad 0) ?_
 refine ac (ag (ad 1) ae) ?_
 refine ac ?_ af
 refine aj aK ?_ ae
 exact aj aD (ag (ad 1) ae) ae
abbrev iU:OE:=top 30
theorem zJ:i4 ["state","count"] ["state"] (e9 iU):=sP
theorem nu(tT:m9 P w K mg base k "set_to" ["state","minute","second"] bM)(q5:s_ K mg "COUNT" aQ)(Fn:sr K "filled" "filled" iU f fd):k6 P w K mg base rV (k+1) f fd ["state"] (sQ K dG):=by
 refine ar Fn zJ ?_
 intro _ _ _ _ _ _ hr
 refine ak ?_ ?_
 ·refine aB (ag (ad 0) (au q5)) ?_
  exact ao 1 zJ.nd
 refine al ?_
 refine ax ?_
 refine ai tT hr ?_
 refine ac (ad 0) ?_
 exact ac (ag (ad 1) ae) (ac (ag (ad 1) ae) af)
abbrev cV:OE:=top 31
theorem uh:i4 ["state","count","runs"] ["state"] (e9 cV):=sP
theorem gW(n9:m9 P w K mg base k "put" ["state","place","part"] aH)(q5:s_ K mg "COUNT" aQ)(Fn:sr K "count_turned" "count_turned" cV f fd):k6 P w K mg base rV (k+1) f fd ["state"] (sQ K bG):=by
 refine ar Fn uh ?_
 intro _ _ _ _ _ _ hr
 refine ak ?_ ?_
 ·refine aB (ag (ad 0) (au q5)) ?_
  exact ao 1 uh.nd
 refine ak ?_ ?_
 ·refine aB ?_ ?_
  ·refine iE ?_ ?_
   ·exact kr (ag (ad 1) ae)
   refine jX ?_
   exact dB f_ (ag (ad 1) ae) ae
  exact ao 2 uh.nd
 refine al ?_
 refine ax ?_
 refine ai n9 hr ?_
 refine ac (ad 0) ?_
 refine ac (au q5) ?_
 refine ac ?_ af
 refine aA ?_
 refine ac (ag (ad 1) ae) ?_
 exact ac (ag (ad 1) ae) (ac (ag (ad 1) ae) (ac (ad 2) af))
abbrev dR:OE:=top 33
theorem ub:i4 ["book","state","press","rows","row","step"] ["book","state","press"] (e9 dR):=sP
theorem iY(ul:m9 P w K mg base k "alarm_hour_on" ["state"] bi)(tU:m9 P w K mg base k "alarm_minute_on" ["state"] aW)(uH:m9 P w K mg base k "alarm_turned" ["state"] bu)(tV:m9 P w K mg base k "count_minute_on" ["state"] aU)(tW:m9 P w K mg base k "count_second_on" ["state"] aT)(uI:m9 P w K mg base k "count_turned" ["state"] bG)(zp:m9 P w K mg base k "filled" ["state"] dG)(yc:m9 P w K mg base k "hour_on" ["state"] cR)(xc:m9 P w K mg base k "lap_kept" ["state"] cU)(u6:m9 P w K mg base k "laps_turned" ["state"] bC)(wf:m9 P w K mg base k "minute_on" ["state"] bU)(yd:m9 P w K mg base k "nothing" ["state"] cS)(n9:m9 P w K mg base k "put" ["state","place","part"] aH)(ye:m9 P w K mg base k "to_zero" ["state"] cP)(sO:s_ K mg "MODE" bL)(s_PRESSES:JM K mg "PRESSES" cQ)(A5:Bq P w K mg base k "STEPS" wt)(Fn:sr K "press_done" "press_done" dR f fd):k6 P w K mg base rV (k+1) f fd ["book","state","press"] (sQ K bx):=by
 refine ar Fn ub ?_
 intro _ _ _ _ _ _ hr
 refine ak ?_ ?_
 ·refine aB ?_ ?_
  ·exact ag (ag (ag (ad 0) ae) (ag (ad 1) (au sO))) ae
  exact ao 3 ub.nd
 refine ak ?_ ?_
 ·refine aB ?_ ?_
  ·refine ag (ad 3) ?_
   exact qP s_PRESSES (ad 2)
  exact ao 4 ub.nd
 refine qm 5 ub.nd A5 (ag (ad 4) ae) ?_
 intro fa G_ hF
 refine ES ?_
 refine EO n9 hr ?_
 refine yX ?_ ?_
 ·exact zT hF hr (ac (ad 1) af)
 exact E9 (ac (au sO) (ac (ag (ad 4) ae) af))
abbrev iz:OE:=top 50
theorem z9:i4 ["book","state","held"] ["book","state"] (e9 iz):=sP
theorem ng(sX:m9 P w K mg base k "press_done" ["book","state","press"] bx)(n9:m9 P w K mg base k "put" ["state","place","part"] aH)(rN:s_ K mg "HELD" bg)(sO:s_ K mg "MODE" bL)(Fn:sr K "turned" "turned" iz f fd):k6 P w K mg base rV (k+1) f fd ["book","state"] (sQ K fg):=by
 refine ar Fn z9 ?_
 intro _ _ _ _ _ _ hr
 refine ak ?_ ?_
 ·refine aB (ag (ad 1) (au rN)) ?_
  exact ao 2 z9.nd
 refine ak ?_ ?_
 ·refine cT ?_ ?_ bf
  ·exact aF fU (ad 2) aY
  refine al ?_
  refine ax ?_
  exact ai n9 hr (ac (ad 1) (ac (au sO) (ac ae af)))
 refine al ?_
 refine ax ?_
 refine ai sX hr ?_
 refine ac (ad 0) ?_
 refine ac ?_ ?_
 ·refine ai n9 hr ?_
  refine ac (ad 1) ?_
  refine ac (au rN) ?_
  refine ac ?_ af
  exact aA (ac (ag (ad 2) ae) (ac aY af))
 refine ac ?_ af
 exact ri (ag (ad 2) ae)
abbrev dz:OE:=top 51
theorem iC:i4 ["book","state"] ["book","state"] (e9 dz):=sP
theorem ik(ux:m9 P w K mg base k "counted" ["book","state","many"] cg)(tM:m9 P w K mg base k "turn_tick" ["book","state"] bJ)(zq:m9 P w K mg base k "turned" ["book","state"] fg)(Fn:sr K "behind_turn" "behind_turn" dz f fd):k6 P w K mg base rV (k+1) f fd ["book","state"] (sQ K bB):=by
 refine ar Fn iC ?_
 intro _ _ _ _ _ _ hr
 refine al ?_
 refine ax ?_
 refine ai zq hr ?_
 refine ac (ad 0) ?_
 refine ac ?_ af
 refine ai ux hr ?_
 refine ac (ad 0) ?_
 refine ac (ad 1) ?_
 refine ac ?_ af
 exact ai tM hr (ac (ad 0) (ac (ad 1) af))
abbrev fk:OE:=top 52
theorem xC:i4 ["book","state","many","turn"] ["book","state","many"] (e9 fk):=sP
theorem jM(u7:m9 P w K mg base k "behind_turn" ["book","state"] bB)(tM:m9 P w K mg base k "turn_tick" ["book","state"] bJ)(Fn:sr K "stretches" "stretches" fk f fd):k6 P w K mg base rV (k+1) f fd ["book","state","many"] (sQ K ba):=by
 refine ar Fn xC ?_
 intro _ _ _ _ _ _ hr
 refine ak ?_ ?_
 ·refine aB ?_ ?_
  ·exact ai tM hr (ac (ad 0) (ac (ad 1) af))
  exact ao 3 xC.nd
 refine ak ?_ ?_
 ·refine cT ?_ ?_ bf
  ·refine iD ?_
   refine jF ?_ ?_
   ·exact aF fU (ad 3) aY
   refine iK ?_
   exact aF f_ (ad 3) (ad 2)
  refine al ?_
  refine ax ?_
  refine om ?_
  refine ac ?_ af
  exact aA (ac ae (ac (ad 1) (ac (ad 2) af)))
 refine al ?_
 refine ax ?_
 refine om ?_
 refine ac ?_ ?_
 ·exact aA (ac ae (ac (ad 1) (ac (ad 3) af)))
 refine ac ?_ af
 refine aA ?_
 refine ac (ad 3) ?_
 refine ac ?_ ?_
 ·exact ai u7 hr (ac (ad 0) (ac (ad 1) af))
 refine ac ?_ af
 exact aj bR (ad 2) (ad 3)
abbrev iR:OE:=top 53
theorem zY:i4 ["book","state","many","last"] ["book","state","many"] (e9 iR):=sP
theorem nE(ux:m9 P w K mg base k "counted" ["book","state","many"] cg)(tN:m9 P w K mg base k "stretches" ["book","state","many"] ba)(Fn:sr K "ticked" "ticked" iR f fd):k6 P w K mg base rV (k+1) f fd ["book","state","many"] (sQ K fq):=by
 refine ar Fn zY ?_
 intro _ _ _ _ _ _ hr
 refine ak ?_ ?_
 ·refine aB ?_ ?_
  ·refine ag ?_ ?_
   ·exact ai tN hr (ac (ad 0) (ac (ad 1) (ac (ad 2) af)))
   exact rn qD ae
  exact ao 3 zY.nd
 refine al ?_
 refine ax ?_
 refine ai ux hr ?_
 refine ac (ad 0) ?_
 exact ac (ag (ad 3) ae) (ac (ag (ad 3) ae) af)
abbrev iF:OE:=top 58
theorem zR:i4 ["state","button","ticks"] ["state","button"] (e9 iF):=sP
theorem nH(n9:m9 P w K mg base k "put" ["state","place","part"] aH)(rN:s_ K mg "HELD" bg)(t8:s_ K mg "IDLE" cW)(u0:s_ K mg "RING" ek)(Fn:sr K "pushed" "pushed" iF f fd):k6 P w K mg base rV (k+1) f fd ["state","button"] (sQ K eV):=by
 refine ar Fn zR ?_
 intro _ _ _ _ _ _ hr
 refine ak ?_ ?_
 ·refine cT ?_ ?_ bf
  ·exact aF dJ (ag (ad 0) (au rN)) aY
  refine al ?_
  exact ax (ad 0)
 refine ak ?_ ?_
 ·refine aB ?_ ?_
  ·refine eZ ?_ aY ae
   exact aF f_ (ag (ad 0) (au u0)) ae
  exact ao 2 zR.nd
 refine al ?_
 refine ax ?_
 refine ai n9 hr ?_
 refine ac ?_ (ac (au t8) (ac ae af))
 refine ai n9 hr ?_
 refine ac ?_ ?_
 ·exact ai n9 hr (ac (ad 0) (ac (au u0) (ac ae af)))
 refine ac (au rN) ?_
 refine ac ?_ af
 exact aA (ac (ad 1) (ac (ad 2) af))
abbrev dX:OE:=top 60
theorem jd:i4 ["state","button"] ["state","button"] (e9 dX):=sP
theorem jt(rN:s_ K mg "HELD" bg)(Fn:sr K "is_holding" "is_holding" dX f fd):k6 P w K mg base rV (k+1) f fd ["state","button"] (sQ K bv):=by
 refine ar Fn jd ?_
 intro _ _ _ _ _ _ hr
 refine al ?_
 refine ax ?_
 refine iE ?_ ?_
 ·exact dB dJ (ag (ad 0) (au rN)) aY
 refine jX ?_
 exact dB (eL hr) (ag (ag (ad 0) (au rN)) ae) (ad 1)
abbrev fM:OE:=top 61
theorem lu:i4 ["state","button"] ["state","button"] (e9 fM):=sP
theorem lj(sY:m9 P w K mg base k "is_holding" ["state","button"] bv)(rN:s_ K mg "HELD" bg)(Fn:sr K "is_short" "is_short" fM f fd):k6 P w K mg base rV (k+1) f fd ["state","button"] (sQ K db):=by
 refine ar Fn lu ?_
 intro _ _ _ _ _ _ hr
 refine al ?_
 refine ax ?_
 refine iE ?_ ?_
 ·exact ai sY hr (ac (ad 0) (ac (ad 1) af))
 refine jX ?_
 exact dB dJ (ag (ag (ad 0) (au rN)) ae) aY
abbrev iu:OE:=top 59
theorem zO:i4 ["book","state","button"] ["book","state","button"] (e9 iu):=sP
theorem nQ(sY:m9 P w K mg base k "is_holding" ["state","button"] bv)(xf:m9 P w K mg base k "is_short" ["state","button"] db)(sX:m9 P w K mg base k "press_done" ["book","state","press"] bx)(n9:m9 P w K mg base k "put" ["state","place","part"] aH)(rN:s_ K mg "HELD" bg)(t8:s_ K mg "IDLE" cW)(Fn:sr K "let_go" "let_go" iu f fd):k6 P w K mg base rV (k+1) f fd ["book","state","button"] (sQ K eO):=by
 refine ar Fn zO ?_
 intro _ _ _ _ _ _ hr
 refine ak ?_ ?_
 ·refine cT ?_ ?_ bf
  ·refine jW ?_
   refine dA ?_
   exact ai sY hr (ac (ad 1) (ac (ad 2) af))
  refine al ?_
  exact ax (ad 1)
 refine ak ?_ ?_
 ·refine cT ?_ ?_ bf
  ·refine dA ?_
   exact ai xf hr (ac (ad 1) (ac (ad 2) af))
  refine al ?_
  refine aB ?_ ?_
  ·exact ai sX hr (ac (ad 0) (ac (ad 1) (ac (ad 2) af)))
  exact ao 1 zO.nd
 refine al ?_
 refine ax ?_
 refine ai n9 hr ?_
 refine ac ?_ (ac (au t8) (ac ae af))
 exact ai n9 hr (ac (ad 1) (ac (au rN) (ac aY af)))
abbrev my:OE:=top 57
theorem pR:i4 ["book","state","event"] ["book","state","event"] (e9 my):=sP
theorem pS(zr:m9 P w K mg base k "let_go" ["book","state","button"] eO)(zt:m9 P w K mg base k "pushed" ["state","button"] eV)(zu:m9 P w K mg base k "ticked" ["book","state","many"] fq)(Fn:sr K "gone" "gone" my f fd):k6 P w K mg base rV (k+1) f fd ["book","state","event"] (sQ K gz):=by
 refine ar Fn pR ?_
 intro _ _ _ _ _ _ hr
 refine ak ?_ ?_
 ·refine cT ?_ ?_ bf
  ·exact aF (eL hr) (ag (ad 2) ae) aG
  refine al ?_
  refine ax ?_
  exact ai zt hr (ac (ad 1) (ac (ag (ad 2) ae) af))
 refine ak ?_ ?_
 ·refine cT ?_ ?_ bf
  ·exact aF (eL hr) (ag (ad 2) ae) aG
  refine al ?_
  refine ax ?_
  refine ai zr hr ?_
  exact ac (ad 0) (ac (ad 1) (ac (ag (ad 2) ae) af))
 refine al ?_
 refine ax ?_
 refine ai zu hr ?_
 exact ac (ad 0) (ac (ad 1) (ac (ag (ad 2) ae) af))
abbrev eD:OE:=top 39
theorem tB:i4 ["state","many","alarm","count","of_alarm","of_count"] ["state","many"] (e9 eD):=sP
theorem i_(sU:m9 P w K mg base k "alarm_tick" ["state"] aS)(sW:m9 P w K mg base k "count_tick" ["state"] aZ)(vH:s_ K mg "DAY" eM)(Fn:sr K "ring_count" "ring_count" eD f fd):k6 P w K mg base rV (k+1) f fd ["state","many"] (sQ K bj):=by
 refine ar Fn tB ?_
 intro _ _ _ _ _ _ hr
 refine ak ?_ ?_
 ·refine aB ?_ ?_
  ·exact ai sU hr (ac (ad 0) af)
  exact ao 2 tB.nd
 refine ak ?_ ?_
 ·refine aB ?_ ?_
  ·exact ai sW hr (ac (ad 0) af)
  exact ao 3 tB.nd
 refine ak ?_ ?_
 ·refine aB ?_ ?_
  ·refine eZ ?_ ae ?_
   ·refine iD ?_
    refine jF ?_ ?_
    ·exact aF fU (ad 2) aY
    refine iK ?_
    exact aF f_ (ad 2) (ad 1)
   refine aj aD ?_ ae
   refine aj bT ?_ (au vH)
   exact aj bR (ad 1) (ad 2)
  exact ao 4 tB.nd
 refine ak ?_ ?_
 ·refine aB ?_ ?_
  ·refine eZ ?_ ae ae
   refine iD ?_
   refine jF ?_ ?_
   ·exact aF fU (ad 3) aY
   refine jF ?_ ?_
   ·exact aF f_ (ad 3) (ad 1)
   refine iK ?_
   exact aF (oM hr) (ad 3) (ad 2)
  exact ao 5 tB.nd
 refine al ?_
 refine ax ?_
 exact aj aD (ad 4) (ad 5)
abbrev ci:OE:=top 74
theorem gj:i4 ["book","state","many"] ["book","state","many"] (e9 ci):=sP
theorem fR(vz:m9 P w K mg base k "ring_count" ["state","many"] bj)(tN:m9 P w K mg base k "stretches" ["book","state","many"] ba)(Gb:mg "sum" = none)(Fn:sr K "how_many_rings" "how_many_rings" ci f fd):k6 P w K mg base rV (k+1) f fd ["book","state","many"] (sQ K br):=by
 refine ar Fn gj ?_
 intro _ _ _ _ _ _ hr
 refine al ?_
 refine ax ?_
 refine qC rfl Gb ?_
 refine ql (T:=["stretch"]) rfl ?_ ?_ ?_ ?_ (z6 (by decide)) (show List.Nodup ((["stretch"]:List Str)++(["book" ,"state" ,"many"]:List Str)) from by decide +kernel)
 ·refine qK ?_
  exact ai tN hr (ac (ad 0) (ac (ad 1) (ac (ad 2) af)))
 ·intro C s₃ H₃ fp
  exact ao 0 (show List.Nodup (["stretch" ,"book" ,"state" ,"many"]:List Str) from by decide +kernel)
 ·intro C s₃ H₃ fp
  exact pw
 intro C s₃ H₃ fp
 refine ai vz hr ?_
 exact ac (ag (ad 0) ae) (ac (ag (ad 0) ae) af)
abbrev fF:OE:=top 77
theorem li:i4 ["book","state","event"] ["book","state","event"] (e9 fF):=sP
theorem kJ(t9:m9 P w K mg base k "how_many_rings" ["book","state","many"] br)(Fn:sr K "rings_by" "rings_by" fF f fd):k6 P w K mg base rV (k+1) f fd ["book","state","event"] (sQ K cu):=by
 refine ar Fn li ?_
 intro _ _ _ _ _ _ hr
 refine al ?_
 refine ax ?_
 refine eZ ?_ ?_ ae
 ·exact aF (eL hr) (ag (ad 2) ae) aG
 refine ai t9 hr ?_
 exact ac (ad 0) (ac (ad 1) (ac (ag (ad 2) ae) af))
abbrev c_:OE:=inClass (top 76) 4
theorem ui:i4 ["self","event","behind","rung"] ["self","event"] (e9 c_):=sP
theorem gY(CV:m9 P w K mg base k "gone" ["book","state","event"] gz)(xg:m9 P w K mg base k "rings_by" ["book","state","event"] cu){C:Nat}(cl:vI K C)(u5:rK K C "book")(sN:rK K C "past")(n5:rK K C "present")(sM:rK K C "rung")(Fn:sr K "happen" "Watch.happen" c_ f fd):k6 P w K mg base rV (k+1) f fd ["self","event"] (D2 K 0 (aO C)):=by
 refine gk (j:=0) Fn ui ?_
 intro _ _ _ _ _ _ hr
 refine aI ?_ ?_
 ·refine bD ?_
  refine aB ?_ ?_
  ·refine ai CV hr ?_
   refine ac ?_ ?_
   ·exact bW cl u5 (ad 0)
   refine ac ?_ (ac (ad 1) af)
   exact bW cl n5 (ad 0)
  exact ao 2 ui.nd
 refine aI ?_ ?_
 ·refine bD ?_
  refine aB ?_ ?_
  ·refine aj aD ?_ ?_
   ·exact bW cl sM (ad 0)
   refine ai xg hr ?_
   refine ac ?_ ?_
   ·exact bW cl u5 (ad 0)
   refine ac ?_ (ac (ad 1) af)
   exact bW cl n5 (ad 0)
  exact ao 3 ui.nd
 refine aI ?_ ?_
 ·refine qX 0 cl sN ?_
  refine aA ?_
  refine ac (ad 1) ?_
  refine ac ?_ ?_
  ·exact bW cl n5 (ad 0)
  refine ac ?_ af
  exact bW cl sM (ad 0)
 refine aI ?_ ?_
 ·exact dP 0 cl n5 (ad 2)
 refine bq ?_
 exact dP 0 cl sM (ad 3)
abbrev dW:OE:=inClass (top 76) 1
theorem jb:i4 ["self","button"] ["self","button"] (e9 dW):=sP
theorem iZ{C:Nat}(cl:vI K C)(tX:xx P w K mg base k C "happen" ["self","event"] (aO C))(Fn:sr K "down" "Watch.down" dW f fd):k6 P w K mg base rV (k+1) f fd ["self","button"] (D2 K 0 (cN C)):=by
 refine gk (j:=0) Fn jb ?_
 intro _ _ _ _ _ _ hr
 refine bq ?_
 refine lO 0 cl tX hr ?_
 refine ac ?_ af
 exact aA (ac aG (ac (ad 1) af))
abbrev dm:OE:=inClass (top 76) 3
theorem io:i4 ["self","many"] ["self","many"] (e9 dm):=sP
theorem iM{C:Nat}(cl:vI K C)(tX:xx P w K mg base k C "happen" ["self","event"] (aO C))(Fn:sr K "ticks" "Watch.ticks" dm f fd):k6 P w K mg base rV (k+1) f fd ["self","many"] (D2 K 0 (cz C)):=by
 refine gk (j:=0) Fn io ?_
 intro _ _ _ _ _ _ hr
 refine bq ?_
 refine lO 0 cl tX hr ?_
 refine ac ?_ af
 exact aA (ac aG (ac (ad 1) af))
abbrev cM:OE:=inClass (top 76) 8
theorem t_:i4 ["self","last"] ["self"] (e9 cM):=sP
theorem jm(uF:mg "len" = none){C:Nat}(cl:vI K C)(sN:rK K C "past")(n5:rK K C "present")(sM:rK K C "rung")(Fn:sr K "undo" "Watch.undo" cM f fd):k6 P w K mg base rV (k+1) f fd ["self"] (D2 K 0 (eG C)):=by
 refine gk (j:=0) Fn t_ ?_
 intro _ _ _ _ _ _ hr
 refine aI ?_ ?_
 ·refine kL ?_ ?_ eE
  ·refine aF (eL hr) ?_ ae
   refine jR 0 C ?_
   refine bA iN uF ?_
   refine ac ?_ af
   exact bW cl sN (ad 0)
  exact bq oq
 refine aI ?_ ?_
 ·exact ou 1 0 t_.nd cl sN
 refine aI ?_ ?_
 ·exact dP 0 cl n5 (ag (ad 1) ae)
 refine bq ?_
 exact dP 0 cl sM (ag (ad 1) ae)
theorem zc{P:Oh}{w:Ot}{K:N_}{mg:Str->N7 N8}{base:OC}{k:Nat}{ca:Nat->N9}{Wz:N9}(EK:EU K mg ca Wz)(uF:mg "len" = none){C:Nat}(cl:vI K C)(sN:rK K C "past")(n5:rK K C "present")(sM:rK K C "rung"){f:N9}{fd:OV}(Fn:sr K "undo" "Watch.undo" cM f fd):k6 P w K mg base (xT P w) (k+1) f fd ["self"] (Hk ca K 1 (m7 C)):=by
  refine oF Fn t_ ?_
  intro _ _ _ _ _ _ hr
  exact(Fl (aF (eL hr) (jR 0 C (bA iN uF (ac (bW cl sN (ad 0)) af))) ae) (CP EK rfl aG)
  (aI (ou 1 0 t_.nd cl sN)
  (aI (dP 0 cl n5 (ag (ad 1) ae))
  (bq (dP 0 cl sM (ag (ad 1) ae))))))
abbrev fD:OE:=inClass (top 76) 2
theorem kQ:i4 ["self","button"] ["self","button"] (e9 fD):=sP
theorem lb{C:Nat}(cl:vI K C)(tX:xx P w K mg base k C "happen" ["self","event"] (aO C))(Fn:sr K "up" "Watch.up" fD f fd):k6 P w K mg base rV (k+1) f fd ["self","button"] (D2 K 0 (eh C)):=by
 refine gk (j:=0) Fn kQ ?_
 intro _ _ _ _ _ _ hr
 refine bq ?_
 refine lO 0 cl tX hr ?_
 refine ac ?_ af
 exact aA (ac aG (ac (ad 1) af))
theorem Il{P:Oh}{w:Ot}{K:N_}{mg:Str->N7 N8}{base:OC}{k:Nat}{ca:Nat->N9}{C:Nat}(cl:vI K C)(MX_undo:vJ ca P w K mg base k C "undo" ["self"] (m7 C))(f c':N9)(cl':List (Str×N9))(pm ctv:N8)(S:tE BX.N BX.ps BX.scope cl'):k6 P w K mg base (xT P w) (k+1) f (W.kla_fn "<lambda>" BX.q BX.params BX.body BX.scope cl' pm (.ref c') ctv) BX.ps (x6 ca K BX 0 (tP C (oS "undo") 0 (m7 C) g5) f c' cl' pm ctv):=
 DE rfl (fun cl' f c' A outer s H E S hr=>oG 0 cl MX_undo hr rfl) f c' cl' pm ctv S
theorem H_{K:N_}:∀(c':N9) (cl:List (Str×N9)) (pm ctv:N8),Binds K (W.kla_fn "<lambda>" BX.q BX.params BX.body BX.scope cl pm (.ref c') ctv) BX.ps []:=AX fun _ _ _ _ us hl=>by cases us with | nil=>rfl | cons a b=>cases hl
theorem Ib{P:Oh}{w:Ot}{K:N_}{mg:Str->N7 N8}{base:OC}{k:Nat}{ca:Nat->N9}{C:Nat}(cl:vI K C)(MX_down:vJ ca P w K mg base k C "down" ["self","button"] (tj C))(f c':N9)(cl':List (Str×N9))(pm ctv:N8)(S:tE BY.N BY.ps BY.scope cl'):k6 P w K mg base (xT P w) (k+1) f (W.kla_fn "<lambda>" BY.q BY.params BY.body BY.scope cl' pm (.ref c') ctv) BY.ps (x6 ca K BY 0 (tP C (oS "down") 0 (tj C) (e8 (i6 k8 (g4 1) (kI 1)) g5)) f c' cl' pm ctv):=
 DE rfl (fun cl' f c' A outer s H E S hr=>j7 0 cl MX_down hr (ac (ag (ad 1) ae) af) Jd) f c' cl' pm ctv S
theorem JG{K:N_}:∀(c':N9) (cl:List (Str×N9)) (pm ctv:N8),Binds K (W.kla_fn "<lambda>" BY.q BY.params BY.body BY.scope cl pm (.ref c') ctv) BY.ps []:=AX fun _ _ _ _ us hl=>by cases us with | nil=>rfl | cons a b=>cases hl
theorem Jm{P:Oh}{w:Ot}{K:N_}{mg:Str->N7 N8}{base:OC}{k:Nat}{ca:Nat->N9}{C:Nat}(cl:vI K C)(MX_up:vJ ca P w K mg base k C "up" ["self","button"] (uc C))(f c':N9)(cl':List (Str×N9))(pm ctv:N8)(S:tE B0.N B0.ps B0.scope cl'):k6 P w K mg base (xT P w) (k+1) f (W.kla_fn "<lambda>" B0.q B0.params B0.body B0.scope cl' pm (.ref c') ctv) B0.ps (x6 ca K B0 0 (tP C (oS "up") 0 (uc C) (e8 (i6 k8 (g4 1) (kI 1)) g5)) f c' cl' pm ctv):=
 DE rfl (fun cl' f c' A outer s H E S hr=>j7 0 cl MX_up hr (ac (ag (ad 1) ae) af) Jd) f c' cl' pm ctv S
theorem II{K:N_}:∀(c':N9) (cl:List (Str×N9)) (pm ctv:N8),Binds K (W.kla_fn "<lambda>" B0.q B0.params B0.body B0.scope cl pm (.ref c') ctv) B0.ps []:=AX fun _ _ _ _ us hl=>by cases us with | nil=>rfl | cons a b=>cases hl
theorem Je{P:Oh}{w:Ot}{K:N_}{mg:Str->N7 N8}{base:OC}{k:Nat}{ca:Nat->N9}{C:Nat}(cl:vI K C)(MX_ticks:vJ ca P w K mg base k C "ticks" ["self","many"] (sJ C))(f c':N9)(cl':List (Str×N9))(pm ctv:N8)(S:tE B5.N B5.ps B5.scope cl'):k6 P w K mg base (xT P w) (k+1) f (W.kla_fn "<lambda>" B5.q B5.params B5.body B5.scope cl' pm (.ref c') ctv) B5.ps (x6 ca K B5 0 (tP C (oS "ticks") 0 (sJ C) (e8 (i6 k8 (g4 1) (kI 1)) g5)) f c' cl' pm ctv):=
 DE rfl (fun cl' f c' A outer s H E S hr=>j7 0 cl MX_ticks hr (ac (ag (ad 1) ae) af) Jd) f c' cl' pm ctv S
theorem IA{K:N_}:∀(c':N9) (cl:List (Str×N9)) (pm ctv:N8),Binds K (W.kla_fn "<lambda>" B5.q B5.params B5.body B5.scope cl pm (.ref c') ctv) B5.ps []:=AX fun _ _ _ _ us hl=>by cases us with | nil=>rfl | cons a b=>cases hl
abbrev aE:OE:=top 84
theorem ve:i4 ["_law_thing","_law_number","_law_event_here"] ["_law_thing","_law_number"] (e9 aE):=sP
theorem gu(vA:m9 P w K mg base k "_law_event" ["_law_number"] bK){C:Nat}(cl:vI K C){ca:Nat->N9}{kX:Nat}(rZ:wx P w K mg base ca k (kX+1) "_law_twice_told" ["_law_deed"] k9)(MX_down:vJ ca P w K mg base kX C "down" ["self","button"] (tj C))(MX_ticks:vJ ca P w K mg base kX C "ticks" ["self","many"] (sJ C))(MX_undo:vJ ca P w K mg base kX C "undo" ["self"] (m7 C))(MX_up:vJ ca P w K mg base kX C "up" ["self","button"] (uc C)){ct:tG}(hq:ct.q=("_law_one_deed.<locals>.<lambda>" : Str))(TB:tR mg [ct] base)(Fn:IV K "_law_one_deed" "_law_one_deed" aE f fd ct.c):k6 P w K mg base rV (k+1) f fd ["_law_thing","_law_number"] (IT K 0 (aL C) ct):=by
 refine nX (j:=0) Fn ve ?_
 intro A outer s H E hr hT
 have Lm1:=Ff (X:=(uV rV P w K mg base ["_law_thing","_law_number","_law_event_here"] "_law_one_deed" (e9 aE) f (.ref ct.c) A outer s H E).nox) (t:=BX) (ct:=ct) (x:="_law_thing") (c:=s.heap.objs.size+1) (j:=0) TB hT hq.symm rfl hq.symm (fun _=>rfl) rfl rfl rfl rfl rfl rfl rfl rfl (by decide) rfl (by decide +kernel) (by decide +kernel) rfl (by decide +kernel)
 have Lm2:=zo (X:=(uV rV P w K mg base ["_law_thing","_law_number","_law_event_here"] "_law_one_deed" (e9 aE) f (.ref ct.c) A outer s H E).nox) (t:=BY) (ct:=ct) (x:="_law_thing") (y:="_law_event_here") (c:=s.heap.objs.size+1) (d:=s.heap.objs.size+2) (j:=0) (l:=2) TB hT hq.symm rfl hq.symm (fun _=>rfl) rfl rfl rfl rfl rfl rfl rfl rfl (by decide) (fun h=>OA (Nat.add_left_cancel h) (by decide)) rfl rfl rfl (by decide) rfl (by decide +kernel) (by decide +kernel) rfl rfl (by decide +kernel)
 have Lm3:=zo (X:=(uV rV P w K mg base ["_law_thing","_law_number","_law_event_here"] "_law_one_deed" (e9 aE) f (.ref ct.c) A outer s H E).nox) (t:=B0) (ct:=ct) (x:="_law_thing") (y:="_law_event_here") (c:=s.heap.objs.size+1) (d:=s.heap.objs.size+2) (j:=0) (l:=2) TB hT hq.symm rfl hq.symm (fun _=>rfl) rfl rfl rfl rfl rfl rfl rfl rfl (by decide) (fun h=>OA (Nat.add_left_cancel h) (by decide)) rfl rfl rfl (by decide) rfl (by decide +kernel) (by decide +kernel) rfl rfl (by decide +kernel)
 have Lm4:=zo (X:=(uV rV P w K mg base ["_law_thing","_law_number","_law_event_here"] "_law_one_deed" (e9 aE) f (.ref ct.c) A outer s H E).nox) (t:=B5) (ct:=ct) (x:="_law_thing") (y:="_law_event_here") (c:=s.heap.objs.size+1) (d:=s.heap.objs.size+2) (j:=0) (l:=2) TB hT hq.symm rfl hq.symm (fun _=>rfl) rfl rfl rfl rfl rfl rfl rfl rfl (by decide) (fun h=>OA (Nat.add_left_cancel h) (by decide)) rfl rfl rfl (by decide) rfl (by decide +kernel) (by decide +kernel) rfl rfl (by decide +kernel)
 refine aI ?_ ?_
 ·refine kL ?_ ?_ eE
  ·refine aF (eL hr) ?_ ae
   exact aj aK (ad 1) ae
  refine bq ?_
  exact ig (Ic.c (ia (t:=BX) rZ hr Lm1 rfl (Il cl MX_undo) (H_)))
 refine aI ?_ ?_
 ·refine bD ?_
  refine aB ?_ ?_
  ·refine ai vA hr ?_
   refine ac ?_ af
   exact aj bT (ad 1) ae
  exact ao 2 ve.nd
 refine aI ?_ ?_
 ·refine kL ?_ ?_ eE
  ·exact aF (eL hr) (ag (ad 2) ae) aG
  refine bq ?_
  exact ig (Ic.c (ia (t:=BY) rZ hr Lm2 rfl (Ib cl MX_down) (JG)))
 refine aI ?_ ?_
 ·refine kL ?_ ?_ eE
  ·exact aF (eL hr) (ag (ad 2) ae) aG
  refine bq ?_
  exact ig (Ic.c (ia (t:=B0) rZ hr Lm3 rfl (Jm cl MX_up) (II)))
 refine bq ?_
 exact ig (Ic.c (ia (t:=B5) rZ hr Lm4 rfl (Je cl MX_ticks) (IA)))
abbrev jV:OE:=top 15
theorem xl:i4 ["book","alarm","laps","count"] ["book"] (e9 jV):=sP
theorem ow(Fn:sr K "begun" "begun" jV f fd):k6 P w K mg base rV (k+1) f fd ["book"] (sQ K d_):=by
 refine ar Fn xl ?_
 intro _ _ _ _ _ _ hr
 refine ak ?_ ?_
 ·refine aB ?_ ?_
  ·exact aA (ac ae (ac ae (ac dH af)))
  exact ao 1 xl.nd
 refine ak ?_ ?_
 ·refine aB ?_ ?_
  ·refine aA ?_
   refine ac ae ?_
   refine ac dH ?_
   refine ac ?_ af
   exact aA af
  exact ao 2 xl.nd
 refine ak ?_ ?_
 ·refine aB ?_ ?_
  ·refine aA ?_
   exact ac ae (ac ae (ac ae (ac dH af)))
  exact ao 3 xl.nd
 refine al ?_
 refine ax ?_
 refine aA ?_
 refine ac ae ?_
 refine ac ae ?_
 refine ac (ad 1) ?_
 refine ac (ad 2) ?_
 exact ac (ad 3) (ac ae (ac aY (ac ae af)))
abbrev cj:OE:=inClass (top 76) 0
theorem gi:i4 ["self","book"] ["self","book"] (e9 cj):=sP
theorem fX(A6:m9 P w K mg base k "begun" ["book"] d_){C:Nat}(cl:vI K C)(u5:rK K C "book")(sN:rK K C "past")(n5:rK K C "present")(sM:rK K C "rung")(Fn:sr K "__init__" "Watch.__init__" cj f fd):k6 P w K mg base rV (k+1) f fd ["self","book"] (JT K 2 2 C "past" (aM C)):=by
 refine G8 Fn gi ?_
 intro _ _ _ _ _ _ hr
 refine AH ?_ ?_
 ·exact dP 0 cl u5 (ad 1)
 refine AH ?_ ?_
 ·refine dP 0 cl n5 ?_
  exact ai A6 hr (ac (ad 1) af)
 refine AH ?_ ?_
 ·exact dP 0 cl sM ae
 exact GQ 0 cl sN
abbrev fO:OE:=top 87
theorem uE:i4 ["_law_script","_law_book_here","_law_quiet_one","_law_asked_one","_law_idle_one","_law_first_so","_law_k","_law_number","_law_stood_so","_law_kept_text","_law_told_of_it"] ["_law_script"] (e9 fO):=sP
theorem qB(wg:m9 P w K mg base k "_law_book" ["_law_number"] cD)(tY:m9 P w K mg base k "_law_mixed" ["_law_script","_law_k"] aR)(vt:mg "range" = none)(A7:mg "repr" = none){C:Nat}(l8:m9 P w K mg base k "_law_all_asked" ["_law_thing"] (ay C)){ct:tG}(sD:Ac P w K mg base k "_law_one_deed" ["_law_thing","_law_number"] 0 (aL C) ct){fI:N9}{fdI:OV}{kI:Nat}(MK:Mk K C fI)(FI:k6 P w K mg base rV kI fI fdI ["self","book"] (JT K 2 2 C "past" (aM C)))(BI:Binds K fdI ["self","book"] [])(mgW:mg "Watch" = some (.ref C))(hkI:kI+1<=k)(Fn:sr K "law" "law" fO f fd):k6 P w K mg base rV (k+1) f fd ["_law_script"] (spT K (lq C) ct):=by
 refine qd Fn uE (rE C) ?_ (rB C)
 intro cdv A outer s H E hr hT
 have hrI:=hr.mono hkI
 refine ak ?_ ?_
 ·refine aB ?_ ?_
  ·refine ai wg hr ?_
   refine ac ?_ af
   exact ai tY hr (ac (ad 0) (ac ae af))
  exact ao 1 uE.nd
 refine pT 2 uE.nd MK FI BI hrI mgW (ac (ad 1) af) ?_
 refine lg 3 uE.nd MK FI BI hrI mgW (ac (ad 1) af) ?_
 refine lg 4 uE.nd MK FI BI hrI mgW (ac (ad 1) af) ?_
 refine aI ?_ ?_
 ·refine bD ?_
  refine aB ?_ ?_
  ·exact ai l8 hr (ac (ad 4) af)
  exact ao 5 uE.nd
 refine aI ?_ ?_
 ·refine qA PassesOwn.never rfl ?_ ?_ ?_
  ·refine oh vt ?_
   refine aj aK ?_ ae
   exact ai tY hr (ac (ad 0) (ac ae af))
  ·exact ao 6 uE.nd
  refine aI ?_ ?_
  ·refine bD ?_
   refine aB ?_ ?_
   ·refine ai tY hr ?_
    refine ac (ad 0) ?_
    refine ac ?_ af
    exact aj aD ae (ad 6)
   exact ao 7 uE.nd
  refine aI ?_ ?_
  ·refine bD ?_
   refine aB ?_ ?_
   ·exact ai l8 hr (ac (ad 3) af)
   exact ao 8 uE.nd
  refine aI ?_ ?_
  ·refine bD ?_
   refine aB ?_ ?_
   ·exact bA (mK hr) A7 (ac (ad 8) af)
   exact ao 9 uE.nd
  refine aI ?_ ?_
  ·refine bD ?_
   refine cT ?_ ?_ bf
   ·refine aF (fJ hr) ?_ (ad 8)
    exact ai l8 hr (ac (ad 3) af)
   refine al ?_
   exact ax dH
  refine aI ?_ ?_
  ·exact pQ 10 uE.nd (gL 2 sD hT hr (ac (ad 2) (ac (ad 7) af)) EZ)
  refine aI ?_ ?_
  ·refine oW (fJ hr) (gL 3 sD hT hr (ac (ad 3) (ac (ad 7) af)) EZ) (ad 10) ?_ ?_ eE
   ·refine aF (qi hr) ?_ (ad 9)
    exact bA (mK hr) A7 (ac (ad 8) af)
   refine bq ?_
   refine bD ?_
   exact ax dH
  refine aI ?_ ?_
  ·refine kL ?_ ?_ eE
   ·exact aF (eL hr) (ag (ad 10) ae) aG
   refine aI ?_ ?_
   ·refine oP ?_ (fJ hr) (gL 3 sD hT hr (ac (ad 3) (ac (ad 7) af)) EZ) (ad 10) ?_ eE
    ·refine aF (fJ hr) ?_ (ad 8)
     exact ai l8 hr (ac (ad 3) af)
    refine bq ?_
    refine bD ?_
    exact ax dH
   refine bq ?_
   refine bD ?_
   refine cT ?_ ?_ bf
   ·refine aF (fJ hr) ?_ (ad 8)
    exact ai l8 hr (ac (ad 3) af)
   refine al ?_
   exact ax dH
  refine bq ?_
  refine bD ?_
  refine cT ?_ ?_ bf
  ·refine aF (fJ hr) ?_ ?_
   ·exact ai l8 hr (ac (ad 3) af)
   exact ai l8 hr (ac (ad 3) af)
  refine al ?_
  exact ax dH
 refine aI ?_ ?_
 ·refine bD ?_
  refine cT ?_ ?_ bf
  ·refine aF (fJ hr) ?_ ?_
   ·exact ai l8 hr (ac (ad 2) af)
   exact ai l8 hr (ac (ad 3) af)
  refine al ?_
  exact ax dH
 refine bq ?_
 refine bD ?_
 refine ax ?_
 refine dB (oM hr) ?_ (ad 5)
 exact ai l8 hr (ac (ad 4) af)
end HW
namespace HW
open PySem PySem.Spec PyProof.Rows L2
theorem Ad(K:N_)(H:Hp):∀ns:List Int,i8 K H (ns.map .int) (ns.map V.int)
 | []=>rfl
 | n::ns=>⟨.int n,_,rfl,rfl,Ad K H ns⟩
def gF:LD->OD:=fun ds=>open Classical in if ∃ns:List Int,ds=[.fro (ns.map .int)] then some (.bl true) else none
theorem FF(C:Nat):∀ds d,gF ds=some d->lq C ds=some d:=fun ds d h=>by
 unfold gF at h
 split at h
 ·rename_i z
  obtain⟨ns,rfl⟩:=z
  rw[Gr C ns];exact h
 ·cases h
theorem FZ(ns:List Int)(_:ns.length<=63):gF [.fro (ns.map .int)]=some (.bl true):=Of ⟨ns,rfl⟩
theorem all_mk{l:W.OpenLaw}{w:Ot}{K:N_}{h:OC}{mg:Str->N7 N8}{fa:N9}
  {C:N9}
  {eB eW:N9}
  {q:Oh} {cA pA:N9} {oc2:N8} {od2:N7 N9} {vs2:Array N8} {sl2:Array (N7 N8)} {f68:N9} {od68 an68:N7 N9} {sl68:Array (N7 N8)} {oc68 kV68 dc68 pm68 ct68:N8}
  {f69:N9} {od69 an69:N7 N9} {sl69:Array (N7 N8)} {oc69 kV69 dc69 pm69 cd69 ct69:N8}
  {Gc:Tok}
  {Gd:Tok}
  {Ge:Tok}
  {Gf:Tok}
  {JP:Tok}
  {A8:Tok}
  {Hs:Tok}
  {Ht:Tok}
  {Hu:Tok}
  {Hv:Tok}
  {A9:Tok}
  {Hw:Tok}
  {xh:N9} {CW:Nat} {CY:Array (N7 N8)} {CZ C0 C1 C2 C3 C4:Tok}
  {u9:N9} {zI:Nat} {zv zw zx zy:Tok}
  {zz:N9} {Gg:Nat} {En Eo Ep Es Et Eu Ew Ex Ey Ez C5 C6 C7:Tok}
  {f0 f1 f2 f3 f4 f5 f6 f7 f8 f9 f10 f11 f12 f13 f14 f15 f16 f17 f18 f19 f20 f21 f22 f23 f24 f25 f26 f27 f28 f29 f30 f31 f32 f33 f34 f35 f36 f37 f38 f39 f40 f41 f42 f43 f44 f45 f46 f47 f48 f49 f50 f51 f52 f53 f54 f55 f56 f57 f58 f59 f60 f61 f62 f63 f64 f65 f66 f67:N9}
  (X:K.In h) (G:h.Ns mainGlobals mg) (hfa:mg "law" = some (.ref fa))
  (aC:W.nsIn K mainGlobals "Watch" = some (some (.ref C))) (pg:W.plainGet K C Str.empty=true) (hd:W.hasDictIn K C=true) (po:W.plainOver K C=true) (sa:W.findIn K (.ref C) "__setattr__" = some (some (.builtin "object.__setattr__"))) (mkC:W.makesIn K C=true) (kc:W.keepIn K (.ref C)=true)
  (u5:W.findIn K (.ref C) "book" = some none)
  (sN:W.findIn K (.ref C) "past" = some none)
  (n5:W.findIn K (.ref C) "present" = some none)
  (sM:W.findIn K (.ref C) "rung" = some none)
  (n1:W.nsIn K mainGlobals "NoDeed" = some (some (.ref eB))) (nw:W.nsIn K mainGlobals "WatchError" = some (some (.ref eW))) (ep:FS K eB eW)
  (a0:tO K "_law_cell_at" cY f0)
  (a1:tO K "_law_mixed" en f1)
  (a2:tO K "_law_drawn" dZ f2)
  (a3:tO K "_law_book" eT f3)
  (a4:EA K C "rang" "Watch.rang" eJ f4)
  (a5:EA K C "row" "Watch.row" fm f5)
  (a6:tO K "figures" gn f6)
  (a7:tO K "two_figures" dC f7)
  (a8:tO K "hour_text" fh f8)
  (a9:tO K "time_text" fj f9)
  (a10:tO K "alarm_text" dY f10)
  (a11:tO K "minute_text" dq f11)
  (a12:tO K "laps_text" eQ f12)
  (a13:tO K "count_text" el f13)
  (a14:tO K "shown" km f14)
  (a15:EA K C "shown" "Watch.shown" du f15)
  (a16:EA K C "state" "Watch.state" dt f16)
  (a17:tO K "_law_all_asked" cq f17)
  (a18:tO K "_law_event" dS f18)
  (a19:tO K "laps_on" gm f19)
  (a20:tO K "count_on" fL f20)
  (a21:tO K "alarm_tick" dU f21)
  (a22:tO K "count_tick" eI f22)
  (a23:tO K "last_ring" eY f23)
  (a24:tO K "ring_on" gB f24)
  (a25:tO K "held_on" gr f25)
  (a26:tO K "ticks_to_back" cJ f26)
  (a27:tO K "idle_on" gD f27)
  (a28:tO K "counted" gl f28)
  (a29:tO K "goes_back" e_ f29)
  (a30:tO K "ticks_to_long" cI f30)
  (a31:tO K "turn_tick" eX f31)
  (a32:tO K "put" oa f32)
  (a33:tO K "nothing" gN f33)
  (a34:tO K "hour_on" gq f34)
  (a35:tO K "minute_on" eR f35)
  (a36:tO K "to_zero" gC f36)
  (a37:tO K "alarm_hour_on" cL f37)
  (a38:tO K "alarm_minute_on" b_ f38)
  (a39:tO K "alarm_turned" de f39)
  (a40:tO K "laps_turned" dw f40)
  (a41:tO K "lap_kept" fE f41)
  (a42:tO K "set_to" iV f42)
  (a43:tO K "count_minute_on" bX f43)
  (a44:tO K "count_second_on" bY f44)
  (a45:tO K "filled" iU f45)
  (a46:tO K "count_turned" cV f46)
  (a47:tO K "press_done" dR f47)
  (a48:tO K "turned" iz f48)
  (a49:tO K "behind_turn" dz f49)
  (a50:tO K "stretches" fk f50)
  (a51:tO K "ticked" iR f51)
  (a52:tO K "pushed" iF f52)
  (a53:tO K "is_holding" dX f53)
  (a54:tO K "is_short" fM f54)
  (a55:tO K "let_go" iu f55)
  (a56:tO K "gone" my f56)
  (a57:tO K "ring_count" eD f57)
  (a58:tO K "how_many_rings" ci f58)
  (a59:tO K "rings_by" fF f59)
  (a60:EA K C "happen" "Watch.happen" c_ f60)
  (a61:EA K C "down" "Watch.down" dW f61)
  (a62:EA K C "ticks" "Watch.ticks" dm f62)
  (a63:EA K C "undo" "Watch.undo" cM f63)
  (a64:EA K C "up" "Watch.up" fD f64)
  (a65:tO K "begun" jV f65)
  (a66:EA K C "__init__" "Watch.__init__" cj f66)
  (a67:tO K "_law_twice_told" ce f67)
  (a68:W.nsIn K mainGlobals "_law_one_deed" = some (some (.ref f68))) (l68:K.lookup f68=some ⟨oc68,od68,.func (W.fnOf "_law_one_deed" "_law_one_deed" (sR aE) (rS aE) (e9 aE) .none kV68 dc68 pm68 an68 (.ref cA) ct68),sl68⟩) (c68:W.codeIn K (.ref cA) "_law_one_deed" = true) (k68:W.keepIn K (.ref f68)=true) (l2:K.lookup cA=some ⟨oc2,od2,.fields vs2,sl2⟩) (h11:vs2[11]?=some (.ref pA)) (nt:K.lookup pA=none) (hrec:∃d,(recsOf q).find? (fun e=>e.name==("_law_one_deed" : Str))=some d)
  (a69:W.nsIn K mainGlobals "law" = some (some (.ref f69))) (l69:K.lookup f69=some ⟨oc69,od69,.func (W.fnOf "law" "law" (sR fO) (rS fO) (e9 fO) .none kV69 dc69 pm69 an69 cd69 ct69),sl69⟩) (c69:W.codeIn K cd69 "law" = true) (k69:W.keepIn K (.ref f69)=true)
  (zA:W.nsIn K mainGlobals "shown_going" = some (some (.ref f14)))
  (Ly:W.nsIn K mainGlobals "len" = some none)
  (Lz:W.nsIn K mainGlobals "max" = some none)
  (Hx:W.nsIn K mainGlobals "range" = some none)
  (JQ:W.nsIn K mainGlobals "repr" = some none)
  (C8:W.nsIn K mainGlobals "reversed" = some none)
  (LA:W.nsIn K mainGlobals "str" = some none)
  (LB:W.nsIn K mainGlobals "sum" = some none)
  (Hy:W.nsIn K mainGlobals "tuple" = some none)
  (q_ALARM:W.nsIn K mainGlobals "ALARM" = some (some (.int 2 Gc)))
  (q_BLOCK:W.nsIn K mainGlobals "BLOCK" = some (some (.int 1000000000000000000 Gd)))
  (q_CLOCK:W.nsIn K mainGlobals "CLOCK" = some (some (.int 1 Ge)))
  (q_COUNT:W.nsIn K mainGlobals "COUNT" = some (some (.int 4 Gf)))
  (q_DAY:W.nsIn K mainGlobals "DAY" = some (some (.int 86400 JP)))
  (q_FULL_RING:W.nsIn K mainGlobals "FULL_RING" = some (some (.int 10 A8)))
  (q_HELD:W.nsIn K mainGlobals "HELD" = some (some (.int 6 Hs)))
  (q_IDLE:W.nsIn K mainGlobals "IDLE" = some (some (.int 7 Ht)))
  (q_LAPS:W.nsIn K mainGlobals "LAPS" = some (some (.int 3 Hu)))
  (q_MODE:W.nsIn K mainGlobals "MODE" = some (some (.int 0 Hv)))
  (q_MOST_KEPT:W.nsIn K mainGlobals "MOST_KEPT" = some (some (.int 4 A9)))
  (q_RING:W.nsIn K mainGlobals "RING" = some (some (.int 5 Hw)))
  (q_PRESSES:W.nsIn K mainGlobals "PRESSES" = some (some (.ref xh)))
  (rs_PRESSES:K.lookup xh=some ⟨.type "tuple",none,.seq #[.str (oS "a") CZ,.str (oS "b") C0,.str (oS "c") C1,.str (oS "A") C2,.str (oS "B") C3,.str (oS "C") C4] CW,CY⟩)
  (q_FACE_TEXTS:W.nsIn K mainGlobals "FACE_TEXTS" = some (some (.ref u9)))
  (r_FACE_TEXTS:K.lookup u9=some ⟨.type "dict",none,.dict (entries w [(oS "time",zv,.ref f9),(oS "alarm",zw,.ref f10),(oS "laps",zx,.ref f12),(oS "count",zy,.ref f13)]).toArray zI,#[]⟩)
  (q_STEPS:W.nsIn K mainGlobals "STEPS" = some (some (.ref zz)))
  (r_STEPS:K.lookup zz=some ⟨.type "dict",none,.dict (entries w [(oS "none",En,.ref f33),(oS "hour",Eo,.ref f34),(oS "minute",Ep,.ref f35),(oS "zero",Es,.ref f36),(oS "ahour",Et,.ref f37),(oS "aminute",Eu,.ref f38),(oS "alarm",Ew,.ref f39),(oS "run",Ex,.ref f40),(oS "lap",Ey,.ref f41),(oS "cminute",Ez,.ref f43),(oS "csecond",C5,.ref f44),(oS "full",C6,.ref f45),(oS "count",C7,.ref f46)]).toArray Gg,#[]⟩) :
  ∃(ts:List tG) (fd:OV),(∀t∈ts,K.lookup t.P=none/\∃y d,(recsOf q).find? (fun e=>e.name==y)=some d/\W.tabIn K y=some (t.c,t.P))/\(∀(s:Oa) (v:N8),BindsTo s fd ⟨[v],[]⟩ [("_law_script",v)])/\∀base:OC,K.In base->base.Ns mainGlobals mg->tR mg ts base->k6 l.prog w K mg base rV 15 fa fd ["_law_script"] (Ks K gF ts):=by
 have e:=hfa.symm.trans (Oq X G a69)
 cases e
 have cl:vI K C:=⟨pg,hd,po,sa⟩
 have mgW:=Oq X G aC
 have EK:=G9 X G n1 nw ep
 obtain⟨d0,F0,a0⟩:=tZ a0
 have b0:=F0.binds (ps:=["_law_script","_law_k"]) fun | _,_,_,_,_,_,[_,_],_=>rfl
 have g0:=Oq X G a0
 obtain⟨d1,F1,a1⟩:=tZ a1
 have b1:=F1.binds (ps:=["_law_script","_law_k"]) fun | _,_,_,_,_,_,[_,_],_=>rfl
 have g1:=Oq X G a1
 obtain⟨d2,F2,a2⟩:=tZ a2
 have b2:=F2.binds (ps:=["_law_number","_law_k"]) fun | _,_,_,_,_,_,[_,_],_=>rfl
 have g2:=Oq X G a2
 obtain⟨d3,F3,a3⟩:=tZ a3
 have b3:=F3.binds (ps:=["_law_number"]) fun | _,_,_,_,_,_,[_],_=>rfl
 have g3:=Oq X G a3
 obtain⟨d4,F4,M4⟩:=Gm a4
 have b4:=F4.binds (ps:=["self"]) fun | _,_,_,_,_,_,[_],_=>rfl
 obtain⟨d5,F5,M5⟩:=Gm a5
 have b5:=F5.binds (ps:=["self"]) fun | _,_,_,_,_,_,[_],_=>rfl
 obtain⟨d6,F6,a6⟩:=tZ a6
 have b6:=F6.binds (ps:=["number"]) fun | _,_,_,_,_,_,[_],_=>rfl
 have g6:=Oq X G a6
 obtain⟨d7,F7,a7⟩:=tZ a7
 have b7:=F7.binds (ps:=["number"]) fun | _,_,_,_,_,_,[_],_=>rfl
 have g7:=Oq X G a7
 obtain⟨d8,F8,a8⟩:=tZ a8
 have b8:=F8.binds (ps:=["hour","minute"]) fun | _,_,_,_,_,_,[_,_],_=>rfl
 have g8:=Oq X G a8
 obtain⟨d9,F9,a9⟩:=tZ a9
 have b9:=F9.binds (ps:=["state"]) fun | _,_,_,_,_,_,[_],_=>rfl
 have g9:=Oq X G a9
 obtain⟨d10,F10,a10⟩:=tZ a10
 have b10:=F10.binds (ps:=["state"]) fun | _,_,_,_,_,_,[_],_=>rfl
 have g10:=Oq X G a10
 obtain⟨d11,F11,a11⟩:=tZ a11
 have b11:=F11.binds (ps:=["seconds"]) fun | _,_,_,_,_,_,[_],_=>rfl
 have g11:=Oq X G a11
 obtain⟨d12,F12,a12⟩:=tZ a12
 have b12:=F12.binds (ps:=["state"]) fun | _,_,_,_,_,_,[_],_=>rfl
 have g12:=Oq X G a12
 obtain⟨d13,F13,a13⟩:=tZ a13
 have b13:=F13.binds (ps:=["state"]) fun | _,_,_,_,_,_,[_],_=>rfl
 have g13:=Oq X G a13
 obtain⟨d14,F14,a14⟩:=tZ a14
 have b14:=F14.binds (ps:=["book","state"]) fun | _,_,_,_,_,_,[_,_],_=>rfl
 have g14:=Oq X G a14
 obtain⟨d15,F15,M15⟩:=Gm a15
 have b15:=F15.binds (ps:=["self"]) fun | _,_,_,_,_,_,[_],_=>rfl
 obtain⟨d16,F16,M16⟩:=Gm a16
 have b16:=F16.binds (ps:=["self"]) fun | _,_,_,_,_,_,[_],_=>rfl
 obtain⟨d17,F17,a17⟩:=tZ a17
 have b17:=F17.binds (ps:=["_law_thing"]) fun | _,_,_,_,_,_,[_],_=>rfl
 have g17:=Oq X G a17
 obtain⟨d18,F18,a18⟩:=tZ a18
 have b18:=F18.binds (ps:=["_law_number"]) fun | _,_,_,_,_,_,[_],_=>rfl
 have g18:=Oq X G a18
 obtain⟨d19,F19,a19⟩:=tZ a19
 have b19:=F19.binds (ps:=["laps","many"]) fun | _,_,_,_,_,_,[_,_],_=>rfl
 have g19:=Oq X G a19
 obtain⟨d20,F20,a20⟩:=tZ a20
 have b20:=F20.binds (ps:=["count","many"]) fun | _,_,_,_,_,_,[_,_],_=>rfl
 have g20:=Oq X G a20
 obtain⟨d21,F21,a21⟩:=tZ a21
 have b21:=F21.binds (ps:=["state"]) fun | _,_,_,_,_,_,[_],_=>rfl
 have g21:=Oq X G a21
 obtain⟨d22,F22,a22⟩:=tZ a22
 have b22:=F22.binds (ps:=["state"]) fun | _,_,_,_,_,_,[_],_=>rfl
 have g22:=Oq X G a22
 obtain⟨d23,F23,a23⟩:=tZ a23
 have b23:=F23.binds (ps:=["state","many"]) fun | _,_,_,_,_,_,[_,_],_=>rfl
 have g23:=Oq X G a23
 obtain⟨d24,F24,a24⟩:=tZ a24
 have b24:=F24.binds (ps:=["state","many"]) fun | _,_,_,_,_,_,[_,_],_=>rfl
 have g24:=Oq X G a24
 obtain⟨d25,F25,a25⟩:=tZ a25
 have b25:=F25.binds (ps:=["held","many"]) fun | _,_,_,_,_,_,[_,_],_=>rfl
 have g25:=Oq X G a25
 obtain⟨d26,F26,a26⟩:=tZ a26
 have b26:=F26.binds (ps:=["book","state"]) fun | _,_,_,_,_,_,[_,_],_=>rfl
 have g26:=Oq X G a26
 obtain⟨d27,F27,a27⟩:=tZ a27
 have b27:=F27.binds (ps:=["book","state","many"]) fun | _,_,_,_,_,_,[_,_,_],_=>rfl
 have g27:=Oq X G a27
 obtain⟨d28,F28,a28⟩:=tZ a28
 have b28:=F28.binds (ps:=["book","state","many"]) fun | _,_,_,_,_,_,[_,_,_],_=>rfl
 have g28:=Oq X G a28
 obtain⟨d29,F29,a29⟩:=tZ a29
 have b29:=F29.binds (ps:=["book","state"]) fun | _,_,_,_,_,_,[_,_],_=>rfl
 have g29:=Oq X G a29
 obtain⟨d30,F30,a30⟩:=tZ a30
 have b30:=F30.binds (ps:=["book","state"]) fun | _,_,_,_,_,_,[_,_],_=>rfl
 have g30:=Oq X G a30
 obtain⟨d31,F31,a31⟩:=tZ a31
 have b31:=F31.binds (ps:=["book","state"]) fun | _,_,_,_,_,_,[_,_],_=>rfl
 have g31:=Oq X G a31
 obtain⟨d32,F32,a32⟩:=tZ a32
 have b32:=F32.binds (ps:=["state","place","part"]) fun | _,_,_,_,_,_,[_,_,_],_=>rfl
 have g32:=Oq X G a32
 obtain⟨d33,F33,a33⟩:=tZ a33
 have b33:=F33.binds (ps:=["state"]) fun | _,_,_,_,_,_,[_],_=>rfl
 have g33:=Oq X G a33
 obtain⟨d34,F34,a34⟩:=tZ a34
 have b34:=F34.binds (ps:=["state"]) fun | _,_,_,_,_,_,[_],_=>rfl
 have g34:=Oq X G a34
 obtain⟨d35,F35,a35⟩:=tZ a35
 have b35:=F35.binds (ps:=["state"]) fun | _,_,_,_,_,_,[_],_=>rfl
 have g35:=Oq X G a35
 obtain⟨d36,F36,a36⟩:=tZ a36
 have b36:=F36.binds (ps:=["state"]) fun | _,_,_,_,_,_,[_],_=>rfl
 have g36:=Oq X G a36
 obtain⟨d37,F37,a37⟩:=tZ a37
 have b37:=F37.binds (ps:=["state"]) fun | _,_,_,_,_,_,[_],_=>rfl
 have g37:=Oq X G a37
 obtain⟨d38,F38,a38⟩:=tZ a38
 have b38:=F38.binds (ps:=["state"]) fun | _,_,_,_,_,_,[_],_=>rfl
 have g38:=Oq X G a38
 obtain⟨d39,F39,a39⟩:=tZ a39
 have b39:=F39.binds (ps:=["state"]) fun | _,_,_,_,_,_,[_],_=>rfl
 have g39:=Oq X G a39
 obtain⟨d40,F40,a40⟩:=tZ a40
 have b40:=F40.binds (ps:=["state"]) fun | _,_,_,_,_,_,[_],_=>rfl
 have g40:=Oq X G a40
 obtain⟨d41,F41,a41⟩:=tZ a41
 have b41:=F41.binds (ps:=["state"]) fun | _,_,_,_,_,_,[_],_=>rfl
 have g41:=Oq X G a41
 obtain⟨d42,F42,a42⟩:=tZ a42
 have b42:=F42.binds (ps:=["state","minute","second"]) fun | _,_,_,_,_,_,[_,_,_],_=>rfl
 have g42:=Oq X G a42
 obtain⟨d43,F43,a43⟩:=tZ a43
 have b43:=F43.binds (ps:=["state"]) fun | _,_,_,_,_,_,[_],_=>rfl
 have g43:=Oq X G a43
 obtain⟨d44,F44,a44⟩:=tZ a44
 have b44:=F44.binds (ps:=["state"]) fun | _,_,_,_,_,_,[_],_=>rfl
 have g44:=Oq X G a44
 obtain⟨d45,F45,a45⟩:=tZ a45
 have b45:=F45.binds (ps:=["state"]) fun | _,_,_,_,_,_,[_],_=>rfl
 have g45:=Oq X G a45
 obtain⟨d46,F46,a46⟩:=tZ a46
 have b46:=F46.binds (ps:=["state"]) fun | _,_,_,_,_,_,[_],_=>rfl
 have g46:=Oq X G a46
 obtain⟨d47,F47,a47⟩:=tZ a47
 have b47:=F47.binds (ps:=["book","state","press"]) fun | _,_,_,_,_,_,[_,_,_],_=>rfl
 have g47:=Oq X G a47
 obtain⟨d48,F48,a48⟩:=tZ a48
 have b48:=F48.binds (ps:=["book","state"]) fun | _,_,_,_,_,_,[_,_],_=>rfl
 have g48:=Oq X G a48
 obtain⟨d49,F49,a49⟩:=tZ a49
 have b49:=F49.binds (ps:=["book","state"]) fun | _,_,_,_,_,_,[_,_],_=>rfl
 have g49:=Oq X G a49
 obtain⟨d50,F50,a50⟩:=tZ a50
 have b50:=F50.binds (ps:=["book","state","many"]) fun | _,_,_,_,_,_,[_,_,_],_=>rfl
 have g50:=Oq X G a50
 obtain⟨d51,F51,a51⟩:=tZ a51
 have b51:=F51.binds (ps:=["book","state","many"]) fun | _,_,_,_,_,_,[_,_,_],_=>rfl
 have g51:=Oq X G a51
 obtain⟨d52,F52,a52⟩:=tZ a52
 have b52:=F52.binds (ps:=["state","button"]) fun | _,_,_,_,_,_,[_,_],_=>rfl
 have g52:=Oq X G a52
 obtain⟨d53,F53,a53⟩:=tZ a53
 have b53:=F53.binds (ps:=["state","button"]) fun | _,_,_,_,_,_,[_,_],_=>rfl
 have g53:=Oq X G a53
 obtain⟨d54,F54,a54⟩:=tZ a54
 have b54:=F54.binds (ps:=["state","button"]) fun | _,_,_,_,_,_,[_,_],_=>rfl
 have g54:=Oq X G a54
 obtain⟨d55,F55,a55⟩:=tZ a55
 have b55:=F55.binds (ps:=["book","state","button"]) fun | _,_,_,_,_,_,[_,_,_],_=>rfl
 have g55:=Oq X G a55
 obtain⟨d56,F56,a56⟩:=tZ a56
 have b56:=F56.binds (ps:=["book","state","event"]) fun | _,_,_,_,_,_,[_,_,_],_=>rfl
 have g56:=Oq X G a56
 obtain⟨d57,F57,a57⟩:=tZ a57
 have b57:=F57.binds (ps:=["state","many"]) fun | _,_,_,_,_,_,[_,_],_=>rfl
 have g57:=Oq X G a57
 obtain⟨d58,F58,a58⟩:=tZ a58
 have b58:=F58.binds (ps:=["book","state","many"]) fun | _,_,_,_,_,_,[_,_,_],_=>rfl
 have g58:=Oq X G a58
 obtain⟨d59,F59,a59⟩:=tZ a59
 have b59:=F59.binds (ps:=["book","state","event"]) fun | _,_,_,_,_,_,[_,_,_],_=>rfl
 have g59:=Oq X G a59
 obtain⟨d60,F60,M60⟩:=Gm a60
 have b60:=F60.binds (ps:=["self","event"]) fun | _,_,_,_,_,_,[_,_],_=>rfl
 obtain⟨d61,F61,M61⟩:=Gm a61
 have b61:=F61.binds (ps:=["self","button"]) fun | _,_,_,_,_,_,[_,_],_=>rfl
 obtain⟨d62,F62,M62⟩:=Gm a62
 have b62:=F62.binds (ps:=["self","many"]) fun | _,_,_,_,_,_,[_,_],_=>rfl
 obtain⟨d63,F63,M63⟩:=Gm a63
 have b63:=F63.binds (ps:=["self"]) fun | _,_,_,_,_,_,[_],_=>rfl
 obtain⟨d64,F64,M64⟩:=Gm a64
 have b64:=F64.binds (ps:=["self","button"]) fun | _,_,_,_,_,_,[_,_],_=>rfl
 obtain⟨d65,F65,a65⟩:=tZ a65
 have b65:=F65.binds (ps:=["book"]) fun | _,_,_,_,_,_,[_],_=>rfl
 have g65:=Oq X G a65
 obtain⟨d66,F66,M66⟩:=Gm a66
 have b66:=F66.binds (ps:=["self","book"]) fun | _,_,_,_,_,_,[_,_],_=>rfl
 obtain⟨d67,F67,a67⟩:=tZ a67
 have b67:=F67.binds (ps:=["_law_deed"]) fun | _,_,_,_,_,_,[_],_=>rfl
 have g67:=Oq X G a67
 have F68:IV K "_law_one_deed" "_law_one_deed" aE _ _ cA:=⟨⟨_,_,_,_,_,_,_,_,rfl,l68,c68⟩,k68⟩
 have g68:=Oq X G a68
 have tb:=qF a68 l68 rfl l2 h11
 have b68:=Binds.all (K:=K) (fd:=W.fnOf "_law_one_deed" "_law_one_deed" (sR aE) (rS aE) (e9 aE) .none kV68 dc68 pm68 an68 (.ref cA) ct68) (ps:=["_law_thing","_law_number"]) fun us hl=>by obtain⟨x0,x1,rfl⟩:=ln2 (us:=us) hl;rfl
 have F69:=mt (st:=fO) l69 c69 k69
 have b69:=F69.binds (ps:=["_law_script"]) fun | _,_,_,_,_,_,[_],_=>rfl
 have g69:=Oq X G a69
 have ga_shown_going:=Oq X G zA
 have uF:=W.mg_none_of X G Ly
 have uo:=W.mg_none_of X G Lz
 have vt:=W.mg_none_of X G Hx
 have A7:=W.mg_none_of X G JQ
 have w_:=W.mg_none_of X G C8
 have Am:=W.mg_none_of X G LA
 have Gb:=W.mg_none_of X G LB
 have A1:=W.mg_none_of X G Hy
 have rX:s_ K mg "ALARM" a_:=⟨_,.int 2,Oq X G q_ALARM,⟨_,rfl⟩,fun H=>rfl⟩
 have A2:s_ K mg "BLOCK" et:=⟨_,.int 1000000000000000000,Oq X G q_BLOCK,⟨_,rfl⟩,fun H=>rfl⟩
 have rT:s_ K mg "CLOCK" aV:=⟨_,.int 1,Oq X G q_CLOCK,⟨_,rfl⟩,fun H=>rfl⟩
 have q5:s_ K mg "COUNT" aQ:=⟨_,.int 4,Oq X G q_COUNT,⟨_,rfl⟩,fun H=>rfl⟩
 have vH:s_ K mg "DAY" eM:=⟨_,.int 86400,Oq X G q_DAY,⟨_,rfl⟩,fun H=>rfl⟩
 have wa:s_ K mg "FULL_RING" eU:=⟨_,.int 10,Oq X G q_FULL_RING,⟨_,rfl⟩,fun H=>rfl⟩
 have rN:s_ K mg "HELD" bg:=⟨_,.int 6,Oq X G q_HELD,⟨_,rfl⟩,fun H=>rfl⟩
 have t8:s_ K mg "IDLE" cW:=⟨_,.int 7,Oq X G q_IDLE,⟨_,rfl⟩,fun H=>rfl⟩
 have tJ:s_ K mg "LAPS" bS:=⟨_,.int 3,Oq X G q_LAPS,⟨_,rfl⟩,fun H=>rfl⟩
 have sO:s_ K mg "MODE" bL:=⟨_,.int 0,Oq X G q_MODE,⟨_,rfl⟩,fun H=>rfl⟩
 have we:s_ K mg "MOST_KEPT" eS:=⟨_,.int 4,Oq X G q_MOST_KEPT,⟨_,rfl⟩,fun H=>rfl⟩
 have u0:s_ K mg "RING" ek:=⟨_,.int 5,Oq X G q_RING,⟨_,rfl⟩,fun H=>rfl⟩
 have s_PRESSES:JM K mg "PRESSES" cQ:=⟨xh,_,_,_,Oq X G q_PRESSES,rs_PRESSES,(.cons ⟨_,rfl⟩ (.cons ⟨_,rfl⟩ (.cons ⟨_,rfl⟩ (.cons ⟨_,rfl⟩ (.cons ⟨_,rfl⟩ (.cons ⟨_,rfl⟩ .nil))))))⟩
 have D_FACE_TEXTS:=Oq X G q_FACE_TEXTS
 have D_STEPS:=Oq X G q_STEPS
 obtain⟨dr,hdr⟩:=hrec
 refine⟨[⟨cA,pA,"_law_one_deed.<locals>.<lambda>"⟩],W.fnOf "law" "law" (sR fO) (rS fO) (e9 fO) .none kV69 dc69 pm69 an69 cd69 ct69,fun t ht=>by rw[Od.mp ht];exact⟨nt,"_law_one_deed",dr,hdr,tb⟩,fun s v=>.of_eq rfl,fun base _ _ TB=>?_⟩
 have uG:m9 l.prog w K mg base 1 "_law_cell_at" ["_law_script","_law_k"] bF:=az F0 g0 b0 (g_ (k:=0) uF F0)
 have tY:m9 l.prog w K mg base 2 "_law_mixed" ["_law_script","_law_k"] aR:=az F1 g1 b1 (iW (k:=1) uG.m F1)
 have uu:m9 l.prog w K mg base 1 "_law_drawn" ["_law_number","_law_k"] bo:=az F2 g2 b2 (jc (k:=0)  F2)
 have wg:m9 l.prog w K mg base 2 "_law_book" ["_law_number"] cD:=az F3 g3 b3 (kh (k:=1) uu.m vt F3)
 have CU:yl l.prog w K mg base 1 C "rang" ["self"] (bV C):=⟨_,_,jp (k:=0) cl sM F4,M4,b4⟩
 have Ga:yl l.prog w K mg base 1 C "row" ["self"] (cF C):=⟨_,_,ke (k:=0) A1 cl sN F5,M5,b5⟩
 have uw:m9 l.prog w K mg base 1 "figures" ["number"] cx:=az F6 g6 b6 (mq (k:=0) w_ Am A2 F6)
 have rP:m9 l.prog w K mg base 2 "two_figures" ["number"] aN:=az F7 g7 b7 (iB (k:=1) uw.m F7)
 have tL:m9 l.prog w K mg base 3 "hour_text" ["hour","minute"] bH:=az F8 g8 b8 (jJ (k:=2) rP.m F8)
 have v9:m9 l.prog w K mg base 4 "time_text" ["state"] cC:=az F9 g9 b9 (ki (k:=3) tL.m rP.m rT F9)
 have vv:m9 l.prog w K mg base 4 "alarm_text" ["state"] bZ:=az F10 g10 b10 (jr (k:=3) tL.m rX F10)
 have sE:m9 l.prog w K mg base 3 "minute_text" ["seconds"] bp:=az F11 g11 b11 (iA (k:=2) uw.m rP.m F11)
 have v8:m9 l.prog w K mg base 4 "laps_text" ["state"] cH:=az F12 g12 b12 (jQ (k:=3) sE.m uF Am tJ F12)
 have vw:m9 l.prog w K mg base 4 "count_text" ["state"] cb:=az F13 g13 b13 (jq (k:=3) sE.m q5 F13)
 have vy:Bq l.prog w K mg base 4 "FACE_TEXTS" tS:=⟨u9,_,D_FACE_TEXTS,fun h X=>le _ r_FACE_TEXTS (show List.Nodup [oS "time",oS "alarm",oS "laps",oS "count"] from by decide +kernel) h X,(.cons (sL v9.m g9) (.cons (sL vv.m g10) (.cons (sL v8.m g12) (.cons (sL vw.m g13) .nil))))⟩
 have DN:=pD (P:=l.prog) (w:=w) (base:=base) (k:=4) vv.m vw.m v8.m v9.m sO u0 vy F14
 have LP:m9 l.prog w K mg base 5 "shown" ["book","state"] ft:=az F14 g14 b14 DN
 have u4:m9 l.prog w K mg base 5 "shown_going" ["book","state"] ft:=⟨_,_,DN,ga_shown_going,F14.kp,b14⟩
 have A3:yl l.prog w K mg base 6 C "shown" ["self"] (bP C):=⟨_,_,iq (k:=5) u4.m cl u5 n5 F15,M15,b15⟩
 have A4:yl l.prog w K mg base 1 C "state" ["self"] (bN C):=⟨_,_,iJ (k:=0) cl n5 F16,M16,b16⟩
 have l8:m9 l.prog w K mg base 7 "_law_all_asked" ["_law_thing"] (ay C):=az F17 g17 b17 (fY (k:=6) cl CU.m Ga.m A3.m A4.m F17)
 have vA:m9 l.prog w K mg base 1 "_law_event" ["_law_number"] bK:=az F18 g18 b18 (jk (k:=0)  F18)
 have ya:m9 l.prog w K mg base 1 "laps_on" ["laps","many"] dO:=az F19 g19 b19 (lU (k:=0)  F19)
 have xb:m9 l.prog w K mg base 1 "count_on" ["count","many"] da:=az F20 g20 b20 (kG (k:=0) uo F20)
 have sU:m9 l.prog w K mg base 1 "alarm_tick" ["state"] aS:=az F21 g21 b21 (jo (k:=0) rX rT vH F21)
 have sW:m9 l.prog w K mg base 1 "count_tick" ["state"] aZ:=az F22 g22 b22 (jl (k:=0) q5 F22)
 have v_:m9 l.prog w K mg base 2 "last_ring" ["state","many"] cG:=az F23 g23 b23 (jO (k:=1) sU.m sW.m uo vH F23)
 have yb:m9 l.prog w K mg base 3 "ring_on" ["state","many"] dN:=az F24 g24 b24 (mr (k:=2) v_.m uo wa u0 F24)
 have x9:m9 l.prog w K mg base 1 "held_on" ["held","many"] dL:=az F25 g25 b25 (mi (k:=0)  F25)
 have si:m9 l.prog w K mg base 1 "ticks_to_back" ["book","state"] aX:=az F26 g26 b26 (gA (k:=0) uo t8 F26)
 have x_:m9 l.prog w K mg base 2 "idle_on" ["book","state","many"] dD:=az F27 g27 b27 (mm (k:=1) si.m rN t8 F27)
 have ux:m9 l.prog w K mg base 4 "counted" ["book","state","many"] cg:=az F28 g28 b28 (lK (k:=3) xb.m x9.m x_.m ya.m yb.m rX rT q5 vH rN tJ sO F28)
 have wc:m9 l.prog w K mg base 1 "goes_back" ["book","state"] cE:=az F29 g29 b29 (j8 (k:=0) sO F29)
 have uk:m9 l.prog w K mg base 1 "ticks_to_long" ["book","state"] bz:=az F30 g30 b30 (gK (k:=0) uo rN F30)
 have tM:m9 l.prog w K mg base 2 "turn_tick" ["book","state"] bJ:=az F31 g31 b31 (kx (k:=1) wc.m si.m uk.m rN F31)
 have n9:m9 l.prog w K mg base 1 "put" ["state","place","part"] aH:=az F32 g32 b32 (qz (k:=0)  F32)
 have yd:m9 l.prog w K mg base 1 "nothing" ["state"] cS:=az F33 g33 b33 (mz (k:=0)  F33)
 have yc:m9 l.prog w K mg base 2 "hour_on" ["state"] cR:=az F34 g34 b34 (lD (k:=1) n9.m rT F34)
 have wf:m9 l.prog w K mg base 2 "minute_on" ["state"] bU:=az F35 g35 b35 (jS (k:=1) n9.m rT F35)
 have ye:m9 l.prog w K mg base 2 "to_zero" ["state"] cP:=az F36 g36 b36 (lV (k:=1) n9.m rT F36)
 have ul:m9 l.prog w K mg base 2 "alarm_hour_on" ["state"] bi:=az F37 g37 b37 (gv (k:=1) n9.m rX F37)
 have tU:m9 l.prog w K mg base 2 "alarm_minute_on" ["state"] aW:=az F38 g38 b38 (fH (k:=1) n9.m rX F38)
 have uH:m9 l.prog w K mg base 2 "alarm_turned" ["state"] bu:=az F39 g39 b39 (gZ (k:=1) n9.m rX F39)
 have u6:m9 l.prog w K mg base 2 "laps_turned" ["state"] bC:=az F40 g40 b40 (iG (k:=1) n9.m tJ F40)
 have xc:m9 l.prog w K mg base 2 "lap_kept" ["state"] cU:=az F41 g41 b41 (la (k:=1) n9.m uF tJ we F41)
 have tT:m9 l.prog w K mg base 2 "set_to" ["state","minute","second"] bM:=az F42 g42 b42 (nq (k:=1) n9.m q5 F42)
 have tV:m9 l.prog w K mg base 3 "count_minute_on" ["state"] aU:=az F43 g43 b43 (fG (k:=2) tT.m q5 F43)
 have tW:m9 l.prog w K mg base 3 "count_second_on" ["state"] aT:=az F44 g44 b44 (fK (k:=2) tT.m q5 F44)
 have zp:m9 l.prog w K mg base 3 "filled" ["state"] dG:=az F45 g45 b45 (nu (k:=2) tT.m q5 F45)
 have uI:m9 l.prog w K mg base 2 "count_turned" ["state"] bG:=az F46 g46 b46 (gW (k:=1) n9.m q5 F46)
 have A5:Bq l.prog w K mg base 3 "STEPS" wt:=⟨zz,_,D_STEPS,fun h X=>le _ r_STEPS (show List.Nodup [oS "none",oS "hour",oS "minute",oS "zero",oS "ahour",oS "aminute",oS "alarm",oS "run",oS "lap",oS "cminute",oS "csecond",oS "full",oS "count"] from by decide +kernel) h X,(.cons (sL yd.m g33) (.cons (sL yc.m g34) (.cons (sL wf.m g35) (.cons (sL ye.m g36) (.cons (sL ul.m g37) (.cons (sL tU.m g38) (.cons (sL uH.m g39) (.cons (sL u6.m g40) (.cons (sL xc.m g41) (.cons (sL tV.m g43) (.cons (sL tW.m g44) (.cons (sL zp.m g45) (.cons (sL uI.m g46) .nil)))))))))))))⟩
 have sX:m9 l.prog w K mg base 4 "press_done" ["book","state","press"] bx:=az F47 g47 b47 (iY (k:=3) ul.m tU.m uH.m tV.m tW.m uI.m zp.m yc.m xc.m u6.m wf.m yd.m n9.m ye.m sO s_PRESSES A5 F47)
 have zq:m9 l.prog w K mg base 5 "turned" ["book","state"] fg:=az F48 g48 b48 (ng (k:=4) sX.m n9.m rN sO F48)
 have u7:m9 l.prog w K mg base 6 "behind_turn" ["book","state"] bB:=az F49 g49 b49 (ik (k:=5) ux.m tM.m zq.m F49)
 have tN:m9 l.prog w K mg base 7 "stretches" ["book","state","many"] ba:=az F50 g50 b50 (jM (k:=6) u7.m tM.m F50)
 have zu:m9 l.prog w K mg base 8 "ticked" ["book","state","many"] fq:=az F51 g51 b51 (nE (k:=7) ux.m tN.m F51)
 have zt:m9 l.prog w K mg base 2 "pushed" ["state","button"] eV:=az F52 g52 b52 (nH (k:=1) n9.m rN t8 u0 F52)
 have sY:m9 l.prog w K mg base 1 "is_holding" ["state","button"] bv:=az F53 g53 b53 (jt (k:=0) rN F53)
 have xf:m9 l.prog w K mg base 2 "is_short" ["state","button"] db:=az F54 g54 b54 (lj (k:=1) sY.m rN F54)
 have zr:m9 l.prog w K mg base 5 "let_go" ["book","state","button"] eO:=az F55 g55 b55 (nQ (k:=4) sY.m xf.m sX.m n9.m rN t8 F55)
 have CV:m9 l.prog w K mg base 9 "gone" ["book","state","event"] gz:=az F56 g56 b56 (pS (k:=8) zr.m zt.m zu.m F56)
 have vz:m9 l.prog w K mg base 2 "ring_count" ["state","many"] bj:=az F57 g57 b57 (i_ (k:=1) sU.m sW.m vH F57)
 have t9:m9 l.prog w K mg base 8 "how_many_rings" ["book","state","many"] br:=az F58 g58 b58 (fR (k:=7) vz.m tN.m Gb F58)
 have xg:m9 l.prog w K mg base 9 "rings_by" ["book","state","event"] cu:=az F59 g59 b59 (kJ (k:=8) t9.m F59)
 have tX:xx l.prog w K mg base 10 C "happen" ["self","event"] (aO C):=⟨_,_,gY (k:=9) CV.m xg.m cl u5 sN n5 sM F60,M60,b60⟩
 have JR:xx l.prog w K mg base 11 C "down" ["self","button"] (cN C):=⟨_,_,iZ (k:=10) cl tX.m F61,M61,b61⟩
 have MX_down:vJ (D_ eB eB) l.prog w K mg base 11 C "down" ["self","button"] (tj C):=JR.x
 have Hz:xx l.prog w K mg base 11 C "ticks" ["self","many"] (cz C):=⟨_,_,iM (k:=10) cl tX.m F62,M62,b62⟩
 have MX_ticks:vJ (D_ eB eB) l.prog w K mg base 11 C "ticks" ["self","many"] (sJ C):=Hz.x
 have M0:xx l.prog w K mg base 1 C "undo" ["self"] (eG C):=⟨_,_,jm (k:=0) uF cl sN n5 sM F63,M63,b63⟩
 have MX_undo:vJ (D_ eB eB) l.prog w K mg base 1 C "undo" ["self"] (m7 C):=⟨_,_,zc (k:=0) EK uF cl sN n5 sM F63,M63,b63⟩
 have M1:xx l.prog w K mg base 11 C "up" ["self","button"] (eh C):=⟨_,_,lb (k:=10) cl tX.m F64,M64,b64⟩
 have MX_up:vJ (D_ eB eB) l.prog w K mg base 11 C "up" ["self","button"] (uc C):=M1.x
 have A6:m9 l.prog w K mg base 1 "begun" ["book"] d_:=az F65 g65 b65 (ow (k:=0)  F65)
 have FI:=fX (P:=l.prog) (w:=w) (base:=base) (k:=1) A6.m cl u5 sN n5 sM F66
 have rZ:wx l.prog w K mg base (D_ eB eB) 13 12 "_law_twice_told" ["_law_deed"] k9:=⟨_,_,fz (k:=12) EK F67,g67,F67.kp,b67⟩
 have sD:Ac l.prog w K mg base 14 "_law_one_deed" ["_law_thing","_law_number"] 0 (aL C) ⟨cA,pA,"_law_one_deed.<locals>.<lambda>"⟩:=⟨_,_,gu (k:=13) vA.m cl rZ.m MX_down.m MX_ticks.m MX_undo.m MX_up.m rfl TB F68,g68,F68.kp,b68⟩
 exact IJ ((qB wg.m tY.m vt A7 l8.m sD.m ⟨mkC,M66.at_,M66.fn,kc⟩ FI b66 mgW (by decide) F69).imp (GE (FF C)))
theorem walk {l:W.OpenLaw} {q:Oh} {loose:List Str} {XP:(Str->N7 N8)->OC->Prop} {YP:Ot->OC->Prop} {d:DefRec} {K:Params->N_} (hn:l.most=some 63) (hdf:d.params.defaults=[])
    (hY:∀(w:Ot) (h:OC),YP w h->(K w.params).In h)
    (F:∀(w:Ot) (mg:Str->N7 N8) (fa:N9) (h:OC),(K w.params).In h->h.Ns mainGlobals mg->mg d.name=some (.ref fa) ->
      ∃(ts:List tG) (fd:OV),(∀t∈ts,(K w.params).lookup t.P=none/\∃y d',(recsOf q).find? (fun e=>e.name==y)=some d'/\W.tabIn (K w.params) y=some (t.c,t.P))/\(∀(s:Oa) (u:N8),BindsTo s fd ⟨[u],[]⟩ [("_law_script",u)])/\∀base:OC,(K w.params).In base->base.Ns mainGlobals mg->tR mg ts base->k6 l.prog w (K w.params) mg base rV 15 fa fd ["_law_script"] (Ks (K w.params) gF ts)) :
    W.WalkO q loose XP YP l.row.toRowW d [] (fun f vs=>PySem.call f vs):=
  EN (n:=63) (k:=15) (x:="_law_script") (CX:=fun _=>rV) (sp:=fun w ts=>Ks (K w.params) gF ts) hn (by decide) hdf ⟨rfl,by decide,by decide,rfl⟩ hY F (fun w ts H a ns hl hO hP hS=>Ij hO hP ⟨[.fro (ns.map .int)],.bl true,i8.one ⟨a,ns.map V.int,rfl,hS,Ad _ _ ns⟩,FZ ns hl,fun v H' _ hv=>hv⟩) fun _ _ _ _ _ z=>z
end HW
namespace PySem.W.Fast
theorem tw5428344737055256004:True:=⟨⟩
theorem tw9524208001650393705:True:=⟨⟩
theorem tw7551401753000094798:True:=⟨⟩
theorem tw16806987996327183988:True:=⟨⟩
theorem tw3299668333368585480:True:=⟨⟩
theorem tw877706936622540118:True:=⟨⟩
theorem tw5312711886942968218:True:=⟨⟩
theorem tw16509571863818181809:True:=⟨⟩
theorem tw12324782281168658624:True:=⟨⟩
theorem tw18019843353830834324:True:=⟨⟩
theorem tw17271471101316154616:True:=⟨⟩
theorem tw9498136668906612635:True:=⟨⟩
theorem tw16927280520607287644:True:=⟨⟩
theorem tw10947489414825368534:True:=⟨⟩
theorem tw9489618239576601146:True:=⟨⟩
theorem tw8796861156846455113:True:=⟨⟩
theorem tw8475685494853553928:True:=⟨⟩
theorem tw5384882635887520715:True:=⟨⟩
theorem tw8660898629698014247:True:=⟨⟩
theorem tw14235950255410247423:True:=⟨⟩
theorem tw1594224518216848241:True:=⟨⟩
theorem tw14136725055077585167:True:=⟨⟩
theorem tw292766039898254136:True:=⟨⟩
theorem tw7734783064065498914:True:=⟨⟩
theorem tw9834852518439329602:True:=⟨⟩
theorem tw6446223130695531210:True:=⟨⟩
theorem tw2329020339963243316:True:=⟨⟩
theorem tw7363863849151591016:True:=⟨⟩
theorem tw9726840907160240082:True:=⟨⟩
theorem tw7843849751159415296:True:=⟨⟩
theorem tw5520419755284110320:True:=⟨⟩
theorem tw16059190984905721152:True:=⟨⟩
theorem tw2215066669073168003:True:=⟨⟩
theorem tw3601272645691197735:True:=⟨⟩
theorem tw9704797990114528168:True:=⟨⟩
theorem tw16972175206835913801:True:=⟨⟩
theorem tw12461688599611883850:True:=⟨⟩
theorem tw17828647109009024364:True:=⟨⟩
theorem tw18256790016022592589:True:=⟨⟩
theorem tw15250968944051654352:True:=⟨⟩
theorem tw5059920476389953137:True:=⟨⟩
theorem tw13742905469958314833:True:=⟨⟩
theorem tw8250224247376609746:True:=⟨⟩
theorem tw15039021435318325684:True:=⟨⟩
theorem tw17004771563822154165:True:=⟨⟩
theorem tw14704212439282614806:True:=⟨⟩
theorem tw1067175107554952726:True:=⟨⟩
theorem tw14810532746194589271:True:=⟨⟩
theorem tw3519017422156941656:True:=⟨⟩
theorem tw6450282624824507769:True:=⟨⟩
theorem tw13594138548275584825:True:=⟨⟩
theorem tw6559874275720094332:True:=⟨⟩
theorem tw13281901930572186173:True:=⟨⟩
theorem tw6419964653071490526:True:=⟨⟩
theorem tw17487052921047647135:True:=⟨⟩
noncomputable def tw2163016090355061794:=PySem.Challenge.pw_handwatch_k62_whole_asked_twice
theorem te2163016090355061794:PySem.Challenge.pw_handwatch_k62_whole_asked_twice=tw2163016090355061794:=rfl
end PySem.W.Fast
open PySem PySem.W PyProof.Rows
set_option maxRecDepth 100000 in
set_option maxHeartbeats 0 in
theorem PySem.Challenge.cw_handwatch_k62_whole_asked_twice_holds : PySem.Challenge.rw_handwatch_k62_whole_asked_twice.Holds := by
 w_on;o_law;k_head;(case hw=>w_witness2)
 k_fill
 refine HW.walk (l:=PySem.Challenge.rw_handwatch_k62_whole_asked_twice) rfl rfl (fun w h Y=>PySem.W.km_in_of Y) ?F
 case F =>
  intro w mg fa h KX G hmg
  refine' HW.all_mk KX G hmg ?_ ?_ ?_ ?_ ?_ ?_ ?_ ?_ ?_ ?_ ?_ ?_ ?_ ?_ ?_ ?_ ?_ ?_ ?_ ?_ ?_ ?_ ?_ ?_ ?_ ?_ ?_ ?_ ?_ ?_ ?_ ?_ ?_ ?_ ?_ ?_ ?_ ?_ ?_ ?_ ?_ ?_ ?_ ?_ ?_ ?_ ?_ ?_ ?_ ?_ ?_ ?_ ?_ ?_ ?_ ?_ ?_ ?_ ?_ ?_ ?_ ?_ ?_ ?_ ?_ ?_ ?_ ?_ ?_ ?_ ?_ ?_ ?_ ?_ ?_ ?_ ?_ ?_ ?_ ?_ ?_ ?_ ?_ ?_ ?_ ?_ ?_ ?_ ?_ ?_ ?_ ?_ ?_ ?_ ?_ ?_ ?_ ?_ ?_ ?_ ?_ ?_ ?_ ?_ ?_ ?_ ?_ ?_ ?_ ?_ ?_ ?_ ?_ ?_ ?_ ?_ ?_ ?_ ?_ ?_ ?_
  all_goals try first | k_is | (refine' HW.fn4_mk ?_ ?_ ?_ ?_<;>try k_is) | (refine' HW.fn5_mk ?_ ?_ ?_ ?_ ?_<;>try k_is) | (refine' HW.errp1_mk ?_ ?_ ?_ ?_ ?_ ?_ ?_ ?_ ?_ ?_ ?_ ?_<;>try first | k_is | k_exc | rfl | kernel_rfl) | rfl | kernel_rfl | exact⟨_,rfl⟩
