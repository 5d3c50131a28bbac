import PyProof.Rows.All
import Wide.All
import OpenK.AllK
import Wide.FinOn
import Lean
import PyProof.EqAt
import PyProof.EqKinds
import PyProof.TupleCall
import PySem.Str
import PySem.Sem
import PyProof.StrWalks
import PyProof.ReprReads
import PyProof.ReprRoads
import PyProof.NeData
import PyProof.WalkInts
import PyProof.Rows.RegStrFacts
import PyProof.StrBlockI
import KE.IntText
import KE.KRevIter
import PyProof.StrBlock2
import KE.KIntText
import PyProof.Rows.Range3
import PyProof.ZipIter
import PyProof.Draws
import PyProof.IsRules
import PySem.SetOps
import PyProof.SetKind
import PyProof.DictStraight
import KE.KDictSum
import PyProof.Rows.SetFrom
import PyProof.Rows.SortShell
import PyProof.ListRange
import PyProof.Rows.FactsT2
import PyProof.Rows.FactsT3
import PySem.Builtin.Str.Common
import PyProof.StrCalls
import PyProof.SumWalk
import KE.KLam
import PyProof.StrLawsIn
import PyProof.FitsReplace
import PyProof.ReprLen
import PySem.Challenge.RW_handwatch_k63_whole_watches_side_by_side
section
open PySem PySem.Spec PyProof.Rows
abbrev Me:=Option
abbrev Mf:=@wpAny_bind
abbrev Mg:=Value
abbrev Mh:=@Heap.get?_push_of_some
abbrev Mi:=Shared
abbrev Mj:=PySem.W.Frag
abbrev Ml:=Addr
abbrev Mm:=@wpAny_pure
abbrev Mn:=@Option.bind_some
abbrev Mo:=@if_pos
abbrev Mp:=@Bool.and_eq_true
abbrev Mq:=@Heap.get?_push_size
abbrev Mr:=@List.mem_singleton
abbrev Ms:=@List.length_map
abbrev Mt:=@Bool.false_ne_true
abbrev Mu:=@List.mem_cons
abbrev Mv:=Program
abbrev Mw:=@Nat.le_refl
abbrev Mx:=@if_neg
abbrev Mz:=@List.size_toArray
abbrev MA:=@List.mem_append_right
abbrev MB:=@Nat.lt_of_lt_of_le
abbrev MD:=@Heap.lt_size
abbrev ME:=@Option.some.inj
abbrev MF:=@PySem.W.mg_of
abbrev MG:=@List.getElem?_eq_some_iff
abbrev MH:=World
abbrev MI:=Heap
abbrev MJ:=Expr
abbrev ML:=Stmt
abbrev MM:=@Nat.ne_of_lt
abbrev MN:=@Nat.le_trans
abbrev MP:=@List.length_append
abbrev MQ:=Around
abbrev MR:=@List.length_set
abbrev MT:=@Heap.get?_update_other
abbrev MV:=@List.mem_cons_of_mem
abbrev MW:=@List.getElem?_set_ne
abbrev MY:=@absurd
abbrev MZ:=@decide_eq_false
abbrev M0:=@List.getElem?_append_right
abbrev M1:=@Array.length_toList
abbrev M2:=@List.getD_eq_getElem?_getD
abbrev M3:=@List.all_eq_true
abbrev M4:=@List.mem_cons_self
abbrev M5:=@List.append_nil
abbrev M6:=@Int.emod_nonneg
abbrev M7:=@Int.emod_lt_of_pos
abbrev M8:=@beq_eq_false_iff_ne
abbrev M9:=@List.map_cons
abbrev M_:=@Nat.zero_le
abbrev Na:=@List.getElem?_set_self
abbrev Nb:=@List.getElem?_map
abbrev Nc:=@decide_eq_true
abbrev Nd:=@List.length_cons
abbrev Nf:=@wpAny_newObj_type
abbrev Ng:=@List.all_cons
abbrev Nh:=@List.getElem?_append_left
abbrev Ni:=@Nat.lt_irrefl
abbrev Nj:=@List.drop_eq_getElem_cons
abbrev Nk:=@Array.getElem?_eq_getElem
abbrev Nl:=FuncData
abbrev Nm:=@of_decide_eq_true
abbrev Nn:=@List.map_append
abbrev Np:=@List.getElem?_eq_none
abbrev Nq:=@Heap.get?_update_self
abbrev Nr:=@List.mem_append_left
abbrev Nt:=@PySem.mem_of_lookup
abbrev Nu:=@wpAny_mono
abbrev Nv:=@Nat.lt_succ_self
abbrev Nw:=@wpAny_Call_Name_kw
abbrev Ny:=@codeAny_builtin
abbrev Nz:=@List.mem_append
abbrev NA:=@List.mem_of_getElem?
abbrev NB:=@List.length_take
abbrev NC:=@beq_iff_eq
abbrev ND:=@Nat.lt_of_le_of_lt
abbrev NE:=@Int.add_zero
abbrev NF:=@eq_of_beq
end
set_option Elab.async false
noncomputable section
set_option linter.all false
set_option maxRecDepth 100000
namespace L2
open PySem PySem.Spec PyProof.Rows
abbrev Key:=Sum Int Str
noncomputable def Gg:Key->Mg->Bool
 | .inl k,v=>Value.isInt k v
 | .inr x,v=>Value.isStrOf x v
def KQ(w:MH):Key->Int
 | .inl k=>hashInt k
 | .inr x=>hashStr w x
theorem rh:∀{k:Key} {v:Mg},Gg k v=true->(∃i t,k=Sum.inl i/\v=Value.int i t)\/(∃x t,k=Sum.inr x/\v=Value.str x t)
 | .inl i,v,h=>by
  obtain⟨t,e⟩:=Value.isInt_shape (k:=i) (v:=v) h
  exact .inl ⟨i,t,rfl,e⟩
 | .inr x,v,h=>by
  obtain⟨t,e⟩:=Value.isStrOf_shape (x:=x) (v:=v) h
  exact .inr ⟨x,t,rfl,e⟩
theorem GG(a b:Int):decide ((Sum.inl a:Key)=Sum.inl b)=(a==b):=by
 by_cases e:a=b
 ·subst e;simp
 ·have h:¬ (Sum.inl a:Key)=Sum.inl b:=fun q=>e (Sum.inl.inj q)
  rw[MZ h]
  exact(M8.mpr e).symm
theorem GF(a b:Str):decide ((Sum.inr a:Key)=Sum.inr b)=decide (a=b):=by
 by_cases e:a=b
 ·subst e;simp
 ·have h:¬ (Sum.inr a:Key)=Sum.inr b:=fun q=>e (Sum.inr.inj q)
  rw[MZ h,MZ e]
theorem GM(a:Int)(b:Str):decide ((Sum.inl a:Key)=Sum.inr b)=false:=MZ (fun q=>nomatch q)
theorem HF(a:Str)(b:Int):decide ((Sum.inr a:Key)=Sum.inl b)=false:=MZ (fun q=>nomatch q)
def xB(prog:Mv)(w:MH):PySem.KeyKind prog w Key where
 is:=Gg
 hash:=KQ w
 inj:=fun v a b ha hb=>by
  rcases rh ha with ⟨i,t,rfl,rfl⟩ | ⟨x,t,rfl,rfl⟩
  ·rcases rh hb with ⟨j,u,rfl,e⟩ | ⟨y,u,rfl,e⟩
   ·injection e with e1 _;rw[e1]
   ·exact nomatch e
  ·rcases rh hb with ⟨j,u,rfl,e⟩ | ⟨y,u,rfl,e⟩
   ·exact nomatch e
   ·injection e with e1 _;rw[e1]
 byValue:=fun k v h=>by
  rcases rh h with ⟨i,t,rfl,rfl⟩ | ⟨x,t,rfl,rfl⟩<;>rfl
 pyHash:=fun hv h=>by
  rcases rh hv with ⟨i,t,rfl,rfl⟩ | ⟨x,t,rfl,rfl⟩
  ·exact wpAny_pyHash_int h
  ·exact wpAny_pyHash_str h
 eqBool:=fun hu hv h=>by
  rcases rh hu with ⟨i,t,rfl,rfl⟩ | ⟨x,t,rfl,rfl⟩
  ·rcases rh hv with ⟨j,u,rfl,rfl⟩ | ⟨y,u,rfl,rfl⟩
   ·rw[GG] at h;exact wpAny_eqBool_int h
   ·rw[GM] at h;exact SeqAt.EqAt.int_str i t y u _ _ _ _ h
  ·rcases rh hv with ⟨j,u,rfl,rfl⟩ | ⟨y,u,rfl,rfl⟩
   ·rw[HF] at h;exact SeqAt.EqAt.str_int x t j u _ _ _ _ h
   ·rw[GF] at h;exact wpAny_eqBool_str h
 «strs»:=fun k x t v h=>by
  rcases rh h with ⟨i,u,rfl,e⟩ | ⟨y,u,rfl,e⟩
  ·exact nomatch e
  ·injection e with e1 _
   subst e1
   cases v<;>rfl
end L2
namespace L2
open PySem PySem.Spec PyProof.Rows
inductive V where
 | non | bl (b:Bool) | int (i:Int) | str (x:Str) | byt (b:Array UInt8) | flt (b:UInt64) | ref (a:Ml) | ty (n:String)
 deriving DecidableEq
def RelV:V->Mg->Prop
 | .non,u=>u=Value.none
 | .bl b,u=>u=Value.bool b
 | .int i,u=>∃t,u=Value.int i t
 | .str x,u=>∃t,u=Value.str x t
 | .byt b,u=>∃t,u=Value.bytes b t
 | .flt b,u=>∃t,u=Value.float b t
 | .ref a,u=>u=Value.ref a
 | .ty n,u=>u=Value.type n
abbrev m8:List V->List Mg->Prop:=Paired RelV
theorem m8.length{xs:List V}{us:List Mg}(r:m8 xs us):xs.length=us.length:=Paired.length r
theorem m8.get:∀{xs:List V} {us:List Mg} {i:Nat} {x:V},m8 xs us->xs[i]?=some x->∃u,us[i]?=some u/\RelV x u
 | _,_,_,_,.nil,e=>by simp at e
 | _,_,0,_,.cons r _,e=>by simp at e;subst e;exact⟨_,rfl,r⟩
 | _,_,i+1,x,.cons _ t,e=>by
  obtain⟨u,h1,h2⟩:=m8.get (i:=i) (x:=x) t (by simpa using e)
  exact⟨u,by simpa using h1,h2⟩
theorem m8.set{x:V}{u:Mg}(r:RelV x u):∀{xs:List V} {us:List Mg} (i:Nat),m8 xs us->m8 (xs.set i x) (us.set i u)
 | _,_,_,.nil=>.nil
 | _,_,0,.cons _ t=>.cons r t
 | _,_,i+1,.cons q t=>.cons q (m8.set r i t)
theorem m8.append:∀{xs ys:List V} {us ws:List Mg},m8 xs us->m8 ys ws->m8 (xs++ys) (us++ws)
 | _,_,_,_,.nil,s=>s
 | _,_,_,_,.cons r t,s=>.cons r (m8.append t s)
theorem m8.take:∀{xs:List V} {us:List Mg} (n:Nat),m8 xs us->m8 (xs.take n) (us.take n)
 | _,_,0,_=>.nil
 | _,_,_+1,.nil=>.nil
 | _,_,n+1,.cons r t=>.cons r (m8.take n t)
theorem m8.drop:∀{xs:List V} {us:List Mg} (n:Nat),m8 xs us->m8 (xs.drop n) (us.drop n)
 | _,_,0,r=>r
 | _,_,_+1,.nil=>.nil
 | _,_,n+1,.cons _ t=>m8.drop n t
theorem m8.none_of:∀{xs:List V} {us:List Mg} {i:Nat},m8 xs us->xs[i]?=none->us[i]?=none:=fun {xs us i} r e=>by
 have h1:=r.length
 have h2:xs.length<=i:=List.getElem?_eq_none_iff.mp e
 exact List.getElem?_eq_none_iff.mpr (by omega)
def vE:Me V->Me Mg->Prop
 | some v,some u=>RelV v u
 | none,none=>True
 | _,_=>False
def KV{κ:Type}:List (κ×V)->List (κ×Mg)->Prop:=Paired fun (p:κ×V) (q:κ×Mg)=>p.1=q.1/\RelV p.2 q.2
def kV:Key->V
 | .inl i=>.int i
 | .inr x=>.str x
inductive HO where
 | lst (xs:List V)
 | tup (xs:List V)
 | dK (kvs:List (Key×V)) | dT (kvs:List (List Key×V))
 | set (S:Int->Bool) (n:Nat)
 | ins (C dx:Ml) (fs:List (Str×V))
 | own (x:Ml)
 | xd (fs:List (Str×V))
 | met (f x:Ml)
 | rng (lo hi:Int)
 | frz (o:Obj) (u:HO)
 | tbl (q:Str) (c:Bool)
 | ext (φ:MI->Prop)
abbrev Hp:=Ml->Me HO
def upd(H:Hp)(a:Ml)(o:HO):Hp:=fun b=>if b=a then some o else H b
theorem ay{H:Hp}{a:Ml}{o:HO}:upd H a o a=some o:=by unfold upd;rw[Mo rfl]
theorem ar{H:Hp}{a b:Ml}{o:HO}(h:b≠a):upd H a o b=H b:=by unfold upd;rw[Mx h]
theorem rq{H:Hp}{a b:Ml}{o:HO}(h:H a=some o)(h':H b=none):a≠b:=by
 intro e;subst e;rw[h] at h';cases h'
def uk(h:MI)(a:Ml)(its:Array Mg):Prop:=∃o,h.get? a=some o/\o.cls=.type "tuple" /\ (∃n,o.data=.seq its n)/\o.dict=none
theorem uk.is{h:MI}{a:Ml}{its:Array Mg}(x:uk h a its):IsTup h a its:=by obtain⟨o,e,c,d,_⟩:=x;exact⟨o,e,c,d⟩
theorem uk.lt{h:MI}{a:Ml}{its:Array Mg}(x:uk h a its):a<h.objs.size:=x.is.lt
theorem uk.new(h:MI)(its:Array Mg):uk (h.push {cls:=.type "tuple",data:=.seq its}) h.objs.size its:=⟨_,Mq _ rfl,rfl,⟨_,rfl⟩,rfl⟩
section
variable(P:Mv)(w:MH)
def tY(H:Hp)(h:MI)(a:Ml):HO->Prop
 | .lst xs=>xs.length<=sizeLine/\∃(its:List Mg) (n:Nat),m8 xs its/\h.get? a=some {cls:=.type "list",data:=.seq its.toArray n}
 | .tup xs=>xs.length<=sizeLine/\∃its:List Mg,m8 xs its/\uk h a its.toArray
 | .dK kvs=>kvs.length<=sizeLine/\(a==sysModules)=false/\∃vs,KV kvs vs/\h.DictOf (xB P w) a vs
 | .dT kvs=>kvs.length<=sizeLine/\(a==sysModules)=false/\∃xs:List (List Key×Ml×Mg),
   Paired (fun (p:List Key×V) (q:List Key×Ml×Mg)=>p.1=q.1/\H q.2.1=some (.tup (p.1.map kV))/\RelV p.2 q.2.2) kvs xs /\
   ∃o es ep,h.get? a=some o/\o.ExactDict/\o.data=.dict es ep/\es.toList=xs.map (entryOfKey (tupleKind (xB P w)))/\(xs.map (·.1)).Nodup
 | .set S n=>h.SetOf (intKind P w) a S n
 | .ins C dx fs=>H dx=some (.own a)/\fs.length<=1000/\dx≠a/\h.get? a=some (PySem.W.instObj C dx) /\
   ∃mA,h.Ns1 dx mA/\(∀f,vE (fs.lookup f) (mA f))/\PySem.Within mA (fs.map (·.1))
 | .own _=>∃o,h.get? a=some o
 | .xd fs=>∃mA,h.Ns1 a mA/\∀f,vE (fs.lookup f) (mA f)
 | .rng lo hi=>∃t u v,h.get? a=some {cls:=.type "range",data:=.fields #[.int lo t,.int hi u,.int 1 v]}
 | .frz o u=>h.get? a=some o/\tY H h a u
 | .tbl q true=>h.CodeRec (.ref a) q
 | .tbl q false=>∃ts:Array Mg,h.get? a=some {cls:=.none,data:=.fields ts}/\TriplesOk ts.toList/\∀(pos:Pos) (cv:Mg),codeAmong pos ts.toList=some cv->∃c,cv=.ref c/\H c=some (.tbl q true)
 | .met f x=>h.get? a=some (PySem.W.methodObj (.ref f) (.ref x))
 | .ext φ=>φ h/\(∃o,h.get? a=some o)/\∀h1 h2:MI,φ h1->(∀o,h1.get? a=some o->h2.get? a=some o)->φ h2
def xl(H:Hp)(h:MI):Prop:=∀a o,H a=some o->tY P w H h a o
end
section
variable{P:Mv}{w:MH}{H H':Hp}{h h':MI}{a:Ml}{o:HO}
theorem tY.lt(x:tY P w H h a o):a<h.objs.size:=by
 cases o with
 | lst xs=>obtain⟨_,_,_,_,e⟩:=x;exact MD e
 | tup xs=>obtain⟨_,_,_,p⟩:=x;exact p.lt
 | dK kvs=>obtain⟨_,_,_,_,o,_,_,e,_⟩:=x;exact MD e
 | dT kvs=>obtain⟨_,_,_,_,o,_,_,e,_⟩:=x;exact MD e
 | set S n=>obtain⟨o,_,_,_,e,_⟩:=x;exact MD e
 | ins C dx fs=>obtain⟨_,_,_,e,_⟩:=x;exact MD e
 | own y=>obtain⟨_,e⟩:=x;exact MD e
 | xd fs=>obtain⟨_,⟨_,_,_,e,_⟩,_⟩:=x;exact MD e
 | rng lo hi=>obtain⟨_,_,_,e⟩:=x;exact MD e
 | frz ob u=>obtain⟨e,_⟩:=x;exact MD e
 | tbl q c =>
  cases c with
  | true=>obtain⟨_,o,_,_,e,g,_⟩:=(show h.CodeRec (.ref a) q from x);cases e;exact MD g
  | false=>obtain⟨_,e,_⟩:=x;exact MD e
 | met f y=>exact MD (show h.get? a=some _ from x)
 | ext φ=>obtain⟨_,⟨_,e⟩,_⟩:=x;exact MD e
theorem Paired.mapP{α β:Type}{F G:α->β->Prop}:∀{l₁:List α} {l₂:List β},Paired F l₁ l₂->(∀a b,F a b->G a b)->Paired G l₁ l₂
 | _,_,.nil,_=>.nil
 | _,_,.cons r t,f=>.cons (f _ _ r) (Paired.mapP t f)
theorem tY.stay(x:tY P w H h a o)(k:∀b u,(b=a\/H b=some (.own a))->h.get? b=some u->h'.get? b=some u)
  (ho:∀b,H b=some (.own a)->H' b=some (.own a)) (ht:∀b xs,H b=some (.tup xs)->H' b=some (.tup xs)) (hc:∀b q c,H b=some (.tbl q c)->H' b=some (.tbl q c)):tY P w H' h' a o:=by
 induction o with
 | lst xs=>obtain⟨z,its,n,r,e⟩:=x;exact⟨z,its,n,r,k _ _ (.inl rfl) e⟩
 | tup xs=>obtain⟨z,its,r,ob,e,c⟩:=x;exact⟨z,its,r,ob,k _ _ (.inl rfl) e,c⟩
 | dK kvs=>obtain⟨z,y,vs,r,ob,es,ep,e,c⟩:=x;exact⟨z,y,vs,r,ob,es,ep,k _ _ (.inl rfl) e,c⟩
 | dT kvs =>
  obtain⟨z,y,xs,r,ob,es,ep,e,c⟩:=x
  exact⟨z,y,xs,Paired.mapP r fun p q z=>⟨z.1,ht _ _ z.2.1,z.2.2⟩,ob,es,ep,k _ _ (.inl rfl) e,c⟩
 | set S n=>obtain⟨ob,es,ep,t,e,c⟩:=x;exact⟨ob,es,ep,t,k _ _ (.inl rfl) e,c⟩
 | ins C dx fs =>
  obtain⟨d,z,ne,e,mA,⟨od,es,ep,e2,c⟩,r⟩:=x
  exact⟨ho _ d,z,ne,k _ _ (.inl rfl) e,mA,⟨od,es,ep,k _ _ (.inr d) e2,c⟩,r⟩
 | own y=>obtain⟨ob,e⟩:=x;exact⟨ob,k _ _ (.inl rfl) e⟩
 | xd fs=>obtain⟨mA,⟨od,es,ep,e,c⟩,r⟩:=x;exact⟨mA,⟨od,es,ep,k _ _ (.inl rfl) e,c⟩,r⟩
 | rng lo hi=>obtain⟨t,u,v,e⟩:=x;exact⟨t,u,v,k _ _ (.inl rfl) e⟩
 | frz ob u ih=>obtain⟨e,q⟩:=x;exact⟨k _ _ (.inl rfl) e,ih q⟩
 | tbl q c =>
  cases c with
  | true =>
   obtain⟨_,o,vs,t,e,g,r⟩:=(show h.CodeRec (.ref a) q from x)
   cases e
   exact⟨a,o,vs,t,rfl,k _ _ (.inl rfl) g,r⟩
  | false =>
   obtain⟨ts,e,t,r⟩:=x
   refine⟨ts,k _ _ (.inl rfl) e,t,fun pos cv hcv=>?_⟩
   obtain⟨c,e1,e2⟩:=r pos cv hcv
   exact⟨c,e1,hc _ _ _ e2⟩
 | met f y =>
  have e:h.get? a=some (PySem.W.methodObj (.ref f) (.ref y)):=x
  show h'.get? a=some (PySem.W.methodObj (.ref f) (.ref y))
  exact k a _ (.inl rfl) e
 | ext φ=>obtain⟨p,⟨o,e⟩,st⟩:=x;exact⟨st _ _ p fun o q=>k _ _ (.inl rfl) q,⟨o,k _ _ (.inl rfl) e⟩,st⟩
theorem xl.lt(x:xl P w H h)(e:H a=some o):a<h.objs.size:=(x a o e).lt
theorem xl.fresh(x:xl P w H h)(e:h.objs.size<=a):H a=none:=by
 cases q:H a with
 | none=>rfl
 | some u=>exact MY (MB (x.lt q) e) (Ni _)
theorem xl.kept(x:xl P w H h)(k:∀b u,h.get? b=some u->h'.get? b=some u):xl P w H h':=fun a o e =>
 (x a o e).stay (fun b u _ q=>k b u q) (fun _ q=>q) (fun _ _ q=>q) fun _ _ _ q=>q
theorem xl.laid(x:xl P w H h)(k:∀b u,h.get? b=some u->h'.get? b=some u)(hp:h.objs.size<=a)(new:tY P w (upd H a o) h' a o):xl P w (upd H a o) h':=fun b u e=>by
 have hn:=x.fresh hp
 by_cases hb:b=a
 ·subst hb;rw[ay] at e;cases e;exact new
 ·rw[ar hb] at e
  exact(x b u e).stay (fun c v _ q=>k c v q) (fun c q=>by rw[ar (rq q hn)];exact q) (fun c xs q=>by rw[ar (rq q hn)];exact q) fun c _ _ q=>by rw[ar (rq q hn)];exact q
end
def Rd(H:Hp)(a:Ml)(u:HO):Prop:=H a=some u\/∃o,H a=some (.frz o u)
theorem Rd.of{H:Hp}{a:Ml}{u:HO}(h:H a=some u):Rd H a u:=.inl h
theorem Rd.ok{P:Mv}{w:MH}{H:Hp}{h:MI}{a:Ml}{u:HO}(r:Rd H a u)(x:xl P w H h):tY P w H h a u:=by
 rcases r with r | ⟨o,r⟩
 ·exact x a u r
 ·obtain⟨_,q⟩:=x a _ r
  exact q
def J1:Me HO->Prop
 | some (.lst _)=>True
 | some (.dK _)=>True
 | some (.dT _)=>True
 | some (.set _ _)=>True
 | some (.ins _ _ _)=>True
 | some (.ext _)=>True
 | some (.frz _ (.own _))=>True
 | _=>False
section
variable{P:Mv}{w:MH}{H:Hp}{h h':MI}{x e:Ml}{o':HO}
theorem xl.write(ok:xl P w H h)(mu:J1 (H x))(he:e=x\/H e=some (.own x))(k:∀b u,b≠e->h.get? b=some u->h'.get? b=some u)(heo:∃u,h'.get? e=some u)
  (new:tY P w (upd H x o') h' x o'):xl P w (upd H x o') h':=fun b u q=>by
 have nown:∀c y,H c=some (.own y)->c≠x:=fun c y r z=>by subst z;rw[r] at mu;exact mu
 have ntup:∀c xs,H c=some (.tup xs)->c≠x:=fun c xs r z=>by subst z;rw[r] at mu;exact mu
 by_cases hb:b=x
 ·subst hb;rw[ay] at q;cases q;exact new
 ·rw[ar hb] at q
  by_cases hbe:b=e
  ·have q':H b=some (.own x):=by
    rcases he with z | z
    ·exact MY (hbe.trans z) hb
    ·rw[hbe];exact z
   rw[q] at q';cases q'
   obtain⟨v,hv⟩:=heo
   exact⟨v,by rw[hbe];exact hv⟩
  ·refine(ok b u q).stay (fun c v hc r=>k c v ?_ r) (fun c r=>by rw[ar (nown c b r)];exact r) (fun c xs r=>by rw[ar (ntup c xs r)];exact r) fun c q d r=>by rw[ar fun z=>by subst z;rw[r] at mu;exact mu];exact r
   rcases hc with rfl | hc
   ·exact hbe
   ·rintro rfl
    rcases he with z | z
    ·exact nown c b hc z
    ·rw[hc] at z;cases z;exact hb rfl
end
structure Un (fs ex:List Ml) (H H':Hp) (h h':MI):Prop where
 keep:∀b o,h.get? b=some o->H b=none->b∉fs->b∉ex->h'.get? b=some o
 slot:∀b o,h.get? b=some o->H b=none->b∈fs->b∉ex->∃sl,h'.get? b=some {o with slots:=sl}
 free:∀b o,h.get? b=some o->H b=none->b∉ex->H' b=none
 there:∀b o,h.get? b=some o->b∉ex->∃o',h'.get? b=some o'
 tups:∀b xs,H b=some (.tup xs)->H' b=some (.tup xs)
 frzs:∀b o u,(∀y,u≠.own y)->H b=some (.frz o u)->H' b=some (.frz o u)
 tbls:∀b q c,H b=some (.tbl q c)->H' b=some (.tbl q c)
section
variable{fs fs' ex ex':List Ml}{H H1 H2:Hp}{h h1 h2 h':MI}{a x e:Ml}{o:HO}
theorem Un.any(u:Un fs ex H H1 h h1){b:Ml}{ob:Obj}(q:h.get? b=some ob)(n:H b=none)(hx:b∉ex):∃sl,h1.get? b=some {ob with slots:=sl}:=by
 by_cases hb:b∈fs
 ·exact u.slot b ob q n hb hx
 ·exact⟨ob.slots,u.keep b ob q n hb hx⟩
theorem Un.trans(a:Un fs ex H H1 h h1)(b:Un fs ex H1 H2 h1 h2):Un fs ex H H2 h h2 where
 keep:=fun c ob q n hc hx=>b.keep c ob (a.keep c ob q n hc hx) (a.free c ob q n hx) hc hx
 slot:=fun c ob q n hc hx=>by
  obtain⟨sl,e1⟩:=a.slot c ob q n hc hx
  obtain⟨sl',e2⟩:=b.slot c _ e1 (a.free c ob q n hx) hc hx
  exact⟨sl',e2⟩
 free:=fun c ob q n hx=>by
  obtain⟨o',e1⟩:=a.there c ob q hx
  exact b.free c o' e1 (a.free c ob q n hx) hx
 there:=fun c ob q hx=>by
  obtain⟨o',e1⟩:=a.there c ob q hx
  exact b.there c o' e1 hx
 tups:=fun c xs q=>b.tups c xs (a.tups c xs q)
 frzs:=fun c ob xs ny q=>b.frzs c ob xs ny (a.frzs c ob xs ny q)
 tbls:=fun c ps d q=>b.tbls c ps d (a.tbls c ps d q)
theorem Un.kept(k:∀b u,h.get? b=some u->h'.get? b=some u):Un fs ex H H h h':=
 ⟨fun b ob q _ _ _=>k b ob q,fun b ob q _ _ _=>⟨ob.slots,k b ob q⟩,fun _ _ _ n _=>n,fun b ob q _=>⟨ob,k b ob q⟩,fun _ _ q=>q,fun _ _ _ _ q=>q,fun _ _ _ q=>q⟩
theorem Un.refl:Un fs ex H H h h:=Un.kept fun _ _ q=>q
theorem Un.laid(k:∀b u,h.get? b=some u->h'.get? b=some u)(hp:h.objs.size<=a)(hn:H a=none):Un fs ex H (upd H a o) h h' where
 keep:=fun b u q _ _ _=>k b u q
 slot:=fun b u q _ _ _=>⟨u.slots,k b u q⟩
 free:=fun b u q n _=>by rw[ar (MM (MB (MD q) hp))];exact n
 there:=fun b u q _=>⟨u,k b u q⟩
 tups:=fun b xs q=>by rw[ar (rq q hn)];exact q
 frzs:=fun b u xs _ q=>by rw[ar (rq q hn)];exact q
 tbls:=fun b ps _ q=>by rw[ar (rq q hn)];exact q
theorem Un.write(mu:J1 (H x))(he:e=x\/H e=some (.own x))(k:∀b u,b≠e->h.get? b=some u->h'.get? b=some u)(heo:∃u,h'.get? e=some u):Un fs ex H (upd H x o) h h':=by
 have hx:∀b,H b=none->b≠x:=fun b n z=>by subst z;rw[n] at mu;exact mu
 have hb:∀b,H b=none->b≠e:=fun b n z=>by
  subst z
  rcases he with r | r
  ·exact hx b n r
  ·rw[n] at r;cases r
 have hm:∀b u,H b=some u->¬ J1 (some u)->b≠x:=fun b u q nm z=>by subst z;rw[q] at mu;exact nm mu
 refine⟨fun b u q n _ _=>k b u (hb b n) q,fun b u q n _ _=>⟨u.slots,k b u (hb b n) q⟩,fun b u q n _=>by rw[ar (hx b n)];exact n,fun b u q _=>?_,
  fun b xs q=>by rw[ar (hm b _ q fun z=>z)];exact q,fun b u xs ny q=>by rw[ar (hm b _ q (by intro z;cases xs<;>first | exact z | exact ny _ rfl))];exact q,fun b ps _ q=>by rw[ar (hm b _ q fun z=>z)];exact q⟩
 by_cases hbe:b=e
 ·subst hbe;exact heo
 ·exact⟨u,k b u hbe q⟩
theorem Un.mono(u:Un fs ex H H1 h h1)(hs:∀b∈fs,b∈fs')(hx:∀b∈ex,b∈ex'):Un fs' ex' H H1 h h1:=
 ⟨fun b ob q n hb he=>u.keep b ob q n (fun z=>hb (hs b z)) fun z=>he (hx b z),fun _ _ q n _ he=>u.any q n fun z=>he (hx _ z),fun b ob q n he=>u.free b ob q n fun z=>he (hx b z),fun b ob q he=>u.there b ob q fun z=>he (hx b z),u.tups,u.frzs,u.tbls⟩
end
def JR(h:MI)(H:Hp):List Ml:=(List.range h.objs.size).filter fun a=>(H a).isSome
def zG(h:MI)(H:Hp):MI:=PySem.W.hideAll h (JR h H)
theorem C2(h:MI)(H:Hp):(zG h H).objs.size=h.objs.size:=PySem.W.hideAll_size _ _
theorem Ef{h:MI}{H:Hp}{b:Ml}{o:Obj}(e:h.get? b=some o)(n:H b=none):(zG h H).get? b=some o:=
 PySem.W.hideAll_get _ e fun hm=>by
  have q:(H b).isSome=true:=(List.mem_filter.mp hm).2
  rw[n] at q;simp at q
theorem Fp{h:MI}{H:Hp}{b:Ml}{o:Obj}(e:(zG h H).get? b=some o):h.get? b=some o/\H b=none:=by
 have e':h.get? b=some o:=PySem.W.of_hideAll (JR h H) e
 refine⟨e',?_⟩
 cases q:H b with
 | none=>rfl
 | some x =>
  have hm:b∈JR h H:=List.mem_filter.mpr ⟨List.mem_range.mpr (MD e'),by simp[q]⟩
  have z:(zG h H).get? b=none:=PySem.W.hideAll_none (JR h H) hm
  rw[z] at e;cases e
noncomputable def Fh(g h:MI)(L:Ml):List (Ml×Obj):=(List.range h.objs.size).filterMap fun a=>if a=L\/(g.get? a).isSome=true then none else (h.get? a).map fun o=>(a,o)
def rest(g h:MI)(L d:Ml):List (Ml×Obj):=(Fh g h L).filter fun p=>decide (p.1≠d)
end L2
namespace L2
open PySem PySem.Spec PyProof.Rows
structure Mod (K:Mj) (mg:Str->Me Mg) (base:MI):Prop where
 kin:K.In base
 glob:base.Ns mainGlobals mg
 blt:∃mb,base.Ns builtinsNs mb/\∀x:Str,x ≠ "__name__" -> mb x=bootBuiltins x
 nolimit:base.NoLimit
structure Cx where
 prog:Mv
 w:MH
 K:Mj
 mg:Str->Me Mg
 base:MI
 A:MQ
 N:List Str
 s₀:Mi
 H₀:Hp
 env:Env
 outer:List Env
 stack:List Env
 ex:List Ml
 fn:Str->Bool
 calm:Bool
 pn:List (Ml×Obj)
 xe:Mg->Mi->Prop
noncomputable def AL(l:List Env):List Ml:=l.filterMap (·.frame)
abbrev Cx.fs(X:Cx):List Ml:=AL X.outer
def BS(sc:Scope)(x:Str):Prop:=sc.names.lookup x=some .local\/sc.names.lookup x=some .cell\/sc.names.lookup x=some .free
def Loc(sc:Scope)(x:Str):Prop:=sc.names.lookup x=some .local\/sc.names.lookup x=some .cell
def Look(env:Env)(h:MI)(m:Str->Me Mg)(x:Str)(u:Mg):Prop:=
 (env.kindOf x=some .local/\m x=some u)\/((env.kindOf x=some .cell\/env.kindOf x=some .free)/\∃c,env.cells.lookup x=some c/\h.IsCell c (some u))
structure Cx.Ok (X:Cx):Prop where
 mod:Mod X.K X.mg X.base
 kind:X.env.scope.kind=.function
 glob:X.env.globals=mainGlobals
 blt:X.env.builtins=builtinsNs
 above:X.s₀.heap.objs.size<=X.env.locals
 inj:∀x y c,X.env.cells.lookup x=some c->X.env.cells.lookup y=some c->x=y
 has:∀x,(X.env.kindOf x=some .cell\/X.env.kindOf x=some .free)->∃c,X.env.cells.lookup x=some c
 cab:∀x c,X.fn x=true->X.env.cells.lookup x=some c->X.s₀.heap.objs.size<=c
 hd:X.calm=true->X.A.handled=none
 frames:X.A.frames=some X.stack
 stk:X.stack=X.outer\/(X.stack=X.env::X.outer/\X.env.frame=some X.env.locals)
 exf:∀b∈X.ex,b≠X.env.locals/\∀x c,X.env.cells.lookup x=some c->c≠b
 bs:∀b o,X.base.get? b=some o->X.s₀.heap.get? b=some o/\X.H₀ b=none
 bsz:X.base.objs.size<=X.s₀.heap.objs.size
 noex:∀b o,X.base.get? b=some o->b∉X.ex
 exfs:∀b∈X.ex,b∉X.fs
 funs:X.s₀.heap.FunFrames X.base X.outer
 frf:∀b∈X.fs,X.H₀ b=none
structure Inv (X:Cx) (pins:List (Ml×Obj)) (σ:List (Me V)) (H:Hp) (s:Mi):Prop where
 ok:X.Ok
 os:s.os=X.s₀.os
 bare:AllBare s.gens
 base:Un X.fs X.ex X.H₀ H X.s₀.heap s.heap
 loc:∃m,s.heap.Ns X.env.locals m/\∀(i:Nat) (x:Str) (v:V),X.N[i]?=some x->σ[i]?=some (some v)->BS X.env.scope x->∃u,RelV v u/\Look X.env s.heap m x u
 cell:∀x c,X.env.cells.lookup x=some c->∃v,s.heap.IsCell c v
 free:H X.env.locals=none
 freeC:∀x c,X.env.cells.lookup x=some c->H c=none
 pin:∀p∈X.pn++pins,s.heap.get? p.1=some p.2/\H p.1=none/\p.1≠X.env.locals/\p.1∉X.fs/\∀v,p.2.data≠.cell v
 hok:xl X.prog X.w H s.heap
 len:σ.length=X.N.length
section
variable{X:Cx}{pins:List (Ml×Obj)}{σ:List (Me V)}{H H':Hp}{s:Mi}{h':MI}
theorem Cx.Ok.nofr(ok:X.Ok){b:Ml}{o:Obj}(e:X.base.get? b=some o):b∉X.fs:=fun hb=>by
 have:=(ok.funs.mem hb).1
 rw[e] at this;cases this
theorem Inv.bs(I:Inv X pins σ H s):∀b o,X.base.get? b=some o->s.heap.get? b=some o/\H b=none:=fun b o e =>
 ⟨I.base.keep b o (I.ok.bs b o e).1 (I.ok.bs b o e).2 (I.ok.nofr e) (I.ok.noex b o e),I.base.free b o (I.ok.bs b o e).1 (I.ok.bs b o e).2 (I.ok.noex b o e)⟩
theorem Inv.bk(I:Inv X pins σ H s):∀b o,X.base.get? b=some o->s.heap.get? b=some o:=fun b o e=>(I.bs b o e).1
theorem Inv.mod(I:Inv X pins σ H s):Mod X.K X.mg X.base:=I.ok.mod
theorem Inv.kIn(I:Inv X pins σ H s):X.K.In s.heap:=I.ok.mod.kin.keeps I.bk
theorem Inv.nolimit(I:Inv X pins σ H s):s.heap.NoLimit:=I.ok.mod.nolimit.keeps I.bk
theorem Inv.fr(I:Inv X pins σ H s):∃m,Fr X.base X.env.locals s.heap m:=
 let ⟨m,hn,_⟩:=I.loc
 ⟨m,hn,I.bk,MN I.ok.bsz I.ok.above⟩
theorem Inv.lt(I:Inv X pins σ H s):X.env.locals<s.heap.objs.size:=let ⟨_,hn,_⟩:=I.loc;hn.lt
theorem Inv.sz(I:Inv X pins σ H s):X.s₀.heap.objs.size<=s.heap.objs.size:=MN I.ok.above (Nat.le_of_lt I.lt)
theorem Inv.nofs(I:Inv X pins σ H s){a:Ml}(h:s.heap.objs.size<=a):a∉X.fs:=fun hb=>by
 obtain⟨_,o,ho,_⟩:=I.ok.funs.mem hb
 exact MY (MB (MD ho) (MN I.sz h)) (Ni _)
theorem Inv.cne(I:Inv X pins σ H s):∀x c,X.env.cells.lookup x=some c->c≠X.env.locals:=fun x c e z=>by
 obtain⟨v,o,ho,hd⟩:=I.cell x c e
 obtain⟨m,⟨o',es,ep,ho',hd',_⟩,_⟩:=I.loc
 rw[z,ho'] at ho;cases ho;rw[hd'] at hd;cases hd
theorem Inv.funs(I:Inv X pins σ H s):s.heap.FunFrames X.base X.outer:=by
 have all:∀(l:List Env),(∀b∈AL l,b∈X.fs)->X.s₀.heap.FunFrames X.base l->s.heap.FunFrames X.base l:=by
  intro l
  induction l with
  | nil=>intro _ _;trivial
  | cons env r ih =>
   intro hs hl
   obtain⟨hk,⟨L,o,hf,hn,ho,hd⟩,hr⟩:=hl
   have hL:L∈X.fs:=hs L (by unfold AL;rw[List.filterMap_cons,hf];exact M4)
   obtain⟨sl,e⟩:=I.base.slot L o ho (I.ok.frf L hL) hL fun z=>I.ok.exfs L z hL
   exact⟨hk,⟨L,_,hf,hn,e,hd⟩,ih (fun b hb=>hs b (by unfold AL;rw[List.filterMap_cons,hf];exact MV _ hb)) hr⟩
 exact all X.outer (fun _ hb=>hb) I.ok.funs
theorem Inv.stack(I:Inv X pins σ H s):s.heap.FunFrames X.base X.stack:=by
 rcases I.ok.stk with e | ⟨e,hf⟩
 ·rw[e];exact I.funs
 ·rw[e]
  obtain⟨m,hn,_⟩:=I.loc
  refine .cons (by rw[I.ok.kind];decide) hf hn ?_ I.funs
  exact Heap.get?_none_of_le (MN I.ok.bsz I.ok.above)
theorem Inv.stkSub(I:Inv X pins σ H s):∀b∈AL X.stack,b∈X.env.locals::X.fs:=fun b hb=>by
 rcases I.ok.stk with e | ⟨e,hf⟩
 ·rw[e] at hb;exact MV _ hb
 ·rw[e] at hb
  unfold AL at hb
  rw[List.filterMap_cons,hf] at hb
  exact hb
theorem Inv.stkFree(I:Inv X pins σ H s):∀b∈AL X.stack,H b=none:=fun b hb=>by
 rcases Mu.mp (I.stkSub b hb) with e | hb
 ·rw[e];exact I.free
 ·obtain⟨_,o,ho,_⟩:=I.ok.funs.mem hb
  exact I.base.free b o ho (I.ok.frf b hb) fun z=>I.ok.exfs b z hb
theorem Inv.step{g':Array GenState}{t':Nat}{d':Drawn}{ch:List Ml}(I:Inv X pins σ H s)
  (hch:∀b∈ch,(b∈X.ex\/X.s₀.heap.objs.size<=b)/\b≠X.env.locals/\(∀x c,X.env.cells.lookup x=some c->c≠b)/\∀p∈X.pn++pins,p.1≠b)
  (keep:∀b o,b≠X.env.locals->b∉X.fs->b∉ch->s.heap.get? b=some o->H b=none->h'.get? b=some o)
  (slot:∀b o,b≠X.env.locals->b∈X.fs->b∉ch->s.heap.get? b=some o->H b=none->∃sl,h'.get? b=some {o with slots:=sl}) (free:∀b o,b∉ch->s.heap.get? b=some o->H b=none->H' b=none)
  (there:∀b o,b∉ch->s.heap.get? b=some o->∃o',h'.get? b=some o')
  (tups:∀b xs,H b=some (.tup xs)->H' b=some (.tup xs)) (frzs:∀b o u,(∀y,u≠.own y)->H b=some (.frz o u)->H' b=some (.frz o u)) (tbls:∀b q c,H b=some (.tbl q c)->H' b=some (.tbl q c))
  (ns:∀m,s.heap.Ns X.env.locals m->h'.Ns X.env.locals m) (hok:xl X.prog X.w H' h') (hg:AllBare g') :
  Inv X pins σ H' {s with heap:=h',gens:=g',drawn:=d',toks:=t' }:=by
 have neL:∀b o,X.s₀.heap.get? b=some o->b≠X.env.locals:=fun b o e=>MM (MB (MD e) I.ok.above)
 have neC:∀b o,X.s₀.heap.get? b=some o->b∉X.ex->b∉ch:=fun b o e hx hb=>by
  rcases(hch b hb).1 with z | z
  ·exact hx z
  ·exact MY (MB (MD e) z) (Ni _)
 have cellK:∀x c,X.env.cells.lookup x=some c->∀v,s.heap.IsCell c v->h'.IsCell c v:=fun x c e v ⟨o,ho,hd⟩=>by
  have nch:c∉ch:=fun z=>(hch c z).2.2.1 x c e rfl
  by_cases hc:c∈X.fs
  ·obtain⟨sl,q⟩:=slot c o (I.cne x c e) hc nch ho (I.freeC x c e)
   exact⟨_,q,hd⟩
  ·exact⟨o,keep c o (I.cne x c e) hc nch ho (I.freeC x c e),hd⟩
 refine⟨I.ok,I.os,hg,⟨fun b o e n hb hx=>?_,fun b o e n hb hx=>?_,fun b o e n hx=>?_,fun b o e hx=>?_,fun b xs e=>tups b xs (I.base.tups b xs e),fun b o xs ny e=>frzs b o xs ny (I.base.frzs b o xs ny e),fun b ps d e=>?_⟩,?_,fun x c e=>?_,?_,fun x c e=>?_,fun p hp=>?_,hok,I.len⟩
 ·exact keep b o (neL b o e) hb (neC b o e hx) (I.base.keep b o e n hb hx) (I.base.free b o e n hx)
 ·obtain⟨sl,e1⟩:=I.base.slot b o e n hb hx
  obtain⟨sl',e2⟩:=slot b _ (neL b o e) hb (neC b o e hx) e1 (I.base.free b o e n hx)
  exact⟨sl',e2⟩
 ·obtain⟨o',e1⟩:=I.base.there b o e hx
  exact free b o' (neC b o e hx) e1 (I.base.free b o e n hx)
 ·obtain⟨o',e1⟩:=I.base.there b o e hx
  exact there b o' (neC b o e hx) e1
 ·exact tbls b ps d (I.base.tbls b ps d e)
 ·obtain⟨m,hn,hl⟩:=I.loc
  refine⟨m,ns m hn,fun i x v e1 e2 e3=>?_⟩
  obtain⟨u,r,l⟩:=hl i x v e1 e2 e3
  refine⟨u,r,?_⟩
  rcases l with l | ⟨k,c,e,z⟩
  ·exact .inl l
  ·exact .inr ⟨k,c,e,cellK x c e _ z⟩
 ·obtain⟨v,z⟩:=I.cell x c e
  exact⟨v,cellK x c e v z⟩
 ·obtain⟨m,⟨o,_,_,ho,_⟩,_⟩:=I.loc
  exact free _ o (fun z=>(hch _ z).2.1 rfl) ho I.free
 ·obtain⟨v,o,ho,hd⟩:=I.cell x c e
  exact free c o (fun z=>(hch c z).2.2.1 x c e rfl) ho (I.freeC x c e)
 ·obtain⟨e,n,ne,nf,d⟩:=I.pin p hp
  have nch:p.1∉ch:=fun z=>(hch p.1 z).2.2.2 p hp rfl
  exact⟨keep p.1 p.2 ne nf nch e n,free p.1 p.2 nch e n,ne,nf,d⟩
theorem Inv.un{t':Nat}(I:Inv X pins σ H s)(u:Un X.fs [] H H' s.heap h')(hok:xl X.prog X.w H' h'):Inv X pins σ H' {s with heap:=h',toks:=t' }:=by
 obtain⟨m,⟨o,es,ep,ho,r⟩,_⟩:=id I.loc
 obtain⟨sl,hL⟩:=u.any ho I.free (by simp)
 exact I.step (g':=s.gens) (d':=s.drawn) (ch:=[]) (fun _ z=>nomatch z) (fun b o _ hb _ e n=>u.keep b o e n hb (by simp)) (fun b o _ hb _ e n=>u.slot b o e n hb (by simp)) (fun b o _ e n=>u.free b o e n (by simp)) (fun b o _ e=>u.there b o e (by simp)) u.tups u.frzs u.tbls (fun m' hm=>by
  obtain⟨o',es',ep',ho',r'⟩:=hm
  rw[ho] at ho';cases ho'
  exact⟨_,es',ep',hL,r'⟩) hok I.bare
theorem Inv.call{g':Array GenState}{t':Nat}{d':Drawn}{ch:List Ml}(I:Inv X pins σ H s)(u:Un (AL X.stack) ch H H' s.heap h')(hok:xl X.prog X.w H' h')(hg:AllBare g')
  (hch:∀b∈ch,(b∈X.ex\/X.s₀.heap.objs.size<=b)/\b≠X.env.locals/\(∀x c,X.env.cells.lookup x=some c->c≠b)/\∀p∈X.pn++pins,p.1≠b) :
  Inv X pins σ H' {s with heap:=h',gens:=g',drawn:=d',toks:=t' }:=by
 obtain⟨m,⟨o,es,ep,ho,r⟩,_⟩:=id I.loc
 obtain⟨sl,hL⟩:=u.any ho I.free fun z=>(hch _ z).2.1 rfl
 exact I.step (ch:=ch) hch (fun b o hL hb hc e n=>u.keep b o e n (fun z=>(Mu.mp (I.stkSub b z)).elim hL hb) hc) (fun b o _ _ hc e n=>u.any e n hc) (fun b o hc e n=>u.free b o e n hc) (fun b o hc e=>u.there b o e hc) u.tups u.frzs u.tbls (fun m' hm=>by
  obtain⟨o',es',ep',ho',r'⟩:=hm
  rw[ho] at ho';cases ho'
  exact⟨_,es',ep',hL,r'⟩) hok hg
theorem Inv.turned{t':Nat}{it:Ml}(I:Inv X pins σ H s)(k:∀b o,b≠it->s.heap.get? b=some o->h'.get? b=some o)(hn:H it=none)(hL:it≠X.env.locals)
  (h1:it∈X.ex\/X.s₀.heap.objs.size<=it) (h2:∀x c,X.env.cells.lookup x=some c->c≠it) (h3:∀p∈X.pn++pins,p.1≠it):Inv X pins σ H {s with heap:=h',toks:=t' }:=by
 have nit:∀b u,H b=some u->b≠it:=fun b u e z=>by rw[z,hn] at e;cases e
 refine I.step (g':=s.gens) (d':=s.drawn) (ch:=[it]) (fun b hb=>?_) (fun b o _ _ hc e _=>k b o (fun z=>hc (by simp[z])) e) (fun b o _ _ hc e _=>⟨o.slots,k b o (fun z=>hc (by simp[z])) e⟩) (fun _ _ _ _ n=>n)
  (fun b o hc e=>⟨o,k b o (fun z=>hc (by simp[z])) e⟩) (fun _ _ e=>e) (fun _ _ _ _ e=>e) (fun _ _ _ e=>e) (fun m hm=>?_) (fun b u e=>?_) I.bare
 ·have e:b=it:=by simpa using hb
  subst e
  exact⟨h1,hL,h2,h3⟩
 ·obtain⟨o,es,ep,ho,r⟩:=hm
  exact⟨o,es,ep,k _ o (Ne.symm hL) ho,r⟩
 ·refine(I.hok b u e).stay (fun c v hc q=>k c v ?_ q) (fun _ q=>q) (fun _ _ q=>q) fun _ _ _ q=>q
  rcases hc with z | z
  ·rw[z];exact nit b u e
  ·exact nit c _ z
theorem Inv.tok(I:Inv X pins σ H s)(t:Nat):Inv X pins σ H {s with toks:=t}:=I.un (h':=s.heap) (t':=t) Un.refl I.hok
theorem Inv.kept{t':Nat}(I:Inv X pins σ H s)(k:∀b u,s.heap.get? b=some u->h'.get? b=some u):Inv X pins σ H {s with heap:=h',toks:=t' }:=I.un (Un.kept k) (I.hok.kept k)
theorem Inv.laid{a:Ml}{o:HO}{t':Nat}(I:Inv X pins σ H s)(k:∀b u,s.heap.get? b=some u->h'.get? b=some u)(hp:s.heap.objs.size<=a)(new:tY X.prog X.w (upd H a o) h' a o) :
  Inv X pins σ (upd H a o) {s with heap:=h',toks:=t' }:=I.un (Un.laid k hp (I.hok.fresh hp)) (I.hok.laid k hp new)
theorem Inv.write{x e:Ml}{o:HO}{t':Nat}(I:Inv X pins σ H s)(mu:J1 (H x))(he:e=x\/H e=some (.own x))(k:∀b u,b≠e->s.heap.get? b=some u->h'.get? b=some u)(heo:∃u,h'.get? e=some u)
  (new:tY X.prog X.w (upd H x o) h' x o):Inv X pins σ (upd H x o) {s with heap:=h',toks:=t' }:=I.un (Un.write mu he k heo) (I.hok.write mu he k heo new)
theorem Inv.pins_of{pins':List (Ml×Obj)}(I:Inv X pins σ H s)(h:∀p∈pins',s.heap.get? p.1=some p.2/\H p.1=none/\p.1≠X.env.locals/\p.1∉X.fs/\∀v,p.2.data≠.cell v):Inv X pins' σ H s:=
 ⟨I.ok,I.os,I.bare,I.base,I.loc,I.cell,I.free,I.freeC,fun p hp=>(Nz.mp hp).elim (fun z=>I.pin p (Nr _ z)) (h p),I.hok,I.len⟩
theorem AF{N:List Str}(hN:N.Nodup){i j:Nat}{x:Str}(a:N[i]?=some x)(b:N[j]?=some x):i=j:=by
 obtain⟨h1,e1⟩:=MG.mp a
 obtain⟨h2,e2⟩:=MG.mp b
 exact(List.getElem_inj hN).mp (e1.trans e2.symm)
theorem wL{M:Model}{A:MQ}{E:Mg->Mi->Prop}{i:Nat}{x:Str}{v:V}{u:Mg}{Q:Unit->Mi->Prop}(I:Inv X pins σ H s)(hN:X.N.Nodup)(hi:X.N[i]?=some x)(hx:Loc X.env.scope x)(r:RelV v u)
  (h:∀s',Inv X pins (σ.set i (some v)) H s'->(∃a,Heap.SameBut a s.heap s'.heap/\(a=X.env.locals\/X.env.cells.lookup x=some a))->Q () s') (hf:X.fn x=true\/X.env.scope.names.lookup x=some .local:=by first | exact .inl rfl | exact .inr rfl | assumption):wpAny M A (storeName X.env x u) Q E s:=by
 obtain⟨m,hn,hl⟩:=id I.loc
 have hcls:(X.env.scope.kind==.class||(X.env.scope.kind==.module&&X.env.locals != X.env.globals))=false:=by rw[I.ok.kind];rfl
 have hiσ:i<σ.length:=by rw[I.len];exact(MG.mp hi).1
 have cne:=I.cne
 have tracked:∀{a:Ml} {h':MI},(∃o,s.heap.get? a=some o/\H a=none)->Heap.SameBut a s.heap h'->xl X.prog X.w H h':=fun {a h'} ha hs b ob e=>by
  obtain⟨_,_,hfree⟩:=ha
  refine(I.hok b ob e).stay (fun c w' hc q=>(hs.2 c ?_).trans q) (fun _ q=>q) (fun _ _ q=>q) fun _ _ _ q=>q
  rintro rfl
  rcases hc with rfl | hc
  ·rw[hfree] at e;cases e
  ·rw[hfree] at hc;cases hc
 rcases hx with hk | hk
 ·refine wpAny_storeName_local hk hn (fun h' hn' hs=>?_) hcls
  obtain⟨oL,_,_,hoL,_⟩:=id hn
  refine h _ ⟨I.ok,I.os,I.bare,⟨fun b o e n hb hx=>?_,fun b o e n hb hx=>?_,I.base.free,fun b o e hx=>?_,I.base.tups,I.base.frzs,I.base.tbls⟩,⟨_,hn',fun j y v' e1 e2 e3=>?_⟩,fun y c e=>?_,I.free,I.freeC,fun p hp=>?_,tracked ⟨oL,hoL,I.free⟩ hs,by simpa using I.len⟩ ⟨_,hs,.inl rfl⟩
  ·exact(hs.2 b (MM (MB (MD e) I.ok.above))).trans (I.base.keep b o e n hb hx)
  ·obtain⟨sl,e1⟩:=I.base.slot b o e n hb hx
   exact⟨sl,(hs.2 b (MM (MB (MD e) I.ok.above))).trans e1⟩
  ·obtain⟨o',e1⟩:=I.base.there b o e hx
   exact⟨o',(hs.2 b (MM (MB (MD e) I.ok.above))).trans e1⟩
  ·by_cases hj:j=i
   ·subst hj
    rw[hi] at e1;cases e1
    rw[Na hiσ] at e2
    cases e2
    exact⟨u,r,.inl ⟨hk,by simp⟩⟩
   ·rw[MW (Ne.symm hj)] at e2
    obtain⟨u',r',q⟩:=hl j y v' e1 e2 e3
    refine⟨u',r',?_⟩
    rcases q with ⟨k,e⟩ | ⟨k,c,e,z⟩
    ·refine .inl ⟨k,?_⟩
     have:y≠x:=fun e=>hj (AF hN e1 (e ▸ hi))
     simp[this,e]
    ·exact .inr ⟨k,c,e,z.sameBut hs (cne y c e)⟩
  ·obtain⟨w',z⟩:=I.cell y c e
   exact⟨w',z.sameBut hs (cne y c e)⟩
  ·obtain⟨e,n,ne,nf,d⟩:=I.pin p hp
   exact⟨(hs.2 p.1 ne).trans e,n,ne,nf,d⟩
 ·have hfn:X.fn x=true:=by
   rcases hf with z | z
   ·exact z
   ·rw[z] at hk;cases hk
  obtain⟨c,hc⟩:=I.ok.has x (.inl hk)
  obtain⟨w',z⟩:=I.cell x c hc
  refine wpAny_storeName_cell I.ok.kind hk hc z (fun h' hc' hs=>?_)
  obtain⟨oc,hoc,hocd⟩:=id z
  refine h {s with heap:=h' } ⟨I.ok,I.os,I.bare,⟨fun b o e n hb hx=>?_,fun b o e n hb hx=>?_,I.base.free,fun b o e hx=>?_,I.base.tups,I.base.frzs,I.base.tbls⟩,⟨m,hn.sameBut hs (Ne.symm (cne x c hc)),fun j y v' e1 e2 e3=>?_⟩,fun y c' e=>?_,I.free,I.freeC,fun p hp=>?_,tracked ⟨oc,hoc,I.freeC x c hc⟩ hs,by simpa using I.len⟩ ⟨c,hs,.inr hc⟩
  ·exact(hs.2 b (MM (MB (MD e) (I.ok.cab x c hfn hc)))).trans (I.base.keep b o e n hb hx)
  ·obtain⟨sl,e1⟩:=I.base.slot b o e n hb hx
   exact⟨sl,(hs.2 b (MM (MB (MD e) (I.ok.cab x c hfn hc)))).trans e1⟩
  ·obtain⟨o',e1⟩:=I.base.there b o e hx
   exact⟨o',(hs.2 b (MM (MB (MD e) (I.ok.cab x c hfn hc)))).trans e1⟩
  ·by_cases hj:j=i
   ·subst hj
    rw[hi] at e1;cases e1
    rw[Na hiσ] at e2
    cases e2
    exact⟨u,r,.inr ⟨.inl hk,c,hc,hc'⟩⟩
   ·rw[MW (Ne.symm hj)] at e2
    obtain⟨u',r',q⟩:=hl j y v' e1 e2 e3
    refine⟨u',r',?_⟩
    rcases q with q | ⟨k,c',e,z'⟩
    ·exact .inl q
    ·refine .inr ⟨k,c',e,z'.sameBut hs ?_⟩
     rintro rfl
     exact hj (AF hN e1 (I.ok.inj _ _ _ e hc ▸ hi))
  ·by_cases hcc:c'=c
   ·subst hcc;exact⟨_,hc'⟩
   ·obtain⟨w2,z2⟩:=I.cell y c' e
    exact⟨w2,z2.sameBut hs hcc⟩
  ·obtain⟨e,n,ne,nf,d⟩:=I.pin p hp
   refine⟨(hs.2 p.1 ?_).trans e,n,ne,nf,d⟩
   intro q
   rw[q,hoc] at e
   have q':oc=p.2:=ME e
   exact d w' (by rw[<- q'];exact hocd)
theorem Af{M:Model}{A:MQ}{E:Mg->Mi->Prop}{i:Nat}{x:Str}{v:V}{u:Mg}{Q:Unit->Mi->Prop}(I:Inv X pins σ H s)(hN:X.N.Nodup)(hi:X.N[i]?=some x)(hx:Loc X.env.scope x)(r:RelV v u)
  (h:∀s',Inv X pins (σ.set i (some v)) H s'->Q () s') (hf:X.fn x=true\/X.env.scope.names.lookup x=some .local:=by first | exact .inl rfl | exact .inr rfl | assumption):wpAny M A (storeName X.env x u) Q E s:=
 wL I hN hi hx r (fun s' I' _=>h s' I') hf
theorem Inv.call'{s':Mi}{ch:List Ml}(I:Inv X pins σ H s)(ho:s'.os=s.os)(u:Un (AL X.stack) ch H H' s.heap s'.heap)(hok:xl X.prog X.w H' s'.heap)(hg:AllBare s'.gens)
  (hch:∀b∈ch,(b∈X.ex\/X.s₀.heap.objs.size<=b)/\b≠X.env.locals/\(∀x c,X.env.cells.lookup x=some c->c≠b)/\∀p∈X.pn++pins,p.1≠b):Inv X pins σ H' s':=by
 obtain⟨h',g',d',t',o'⟩:=s'
 have e:o'=s.os:=ho
 subst e
 exact I.call (g':=g') (t':=t') (d':=d') u hok hg hch
end
abbrev XK:=Mg->Me Ml->Hp->Prop
abbrev St:=List (Me V)
abbrev VK:=V->Hp->Prop
abbrev TE:=St->Hp->VK->Prop
abbrev TT:=St->Hp->(Bool->Hp->Prop)->Prop
abbrev TA:=St->Hp->(List V->Hp->Prop)->Prop
structure Ends where
 nx:St->Hp->Prop
 rt:VK
 bk:St->Hp->Prop:=fun _ _=>False
 ct:St->Hp->Prop:=fun _ _=>False
abbrev TS:=Ends->St->Hp->Prop
def EP(X:Cx)(pins:List (Ml×Obj))(σ:St)(Q:VK)(u:Mg)(s':Mi):Prop:=∃v H',Inv X pins σ H' s'/\RelV v u/\Q v H'
def TP(X:Cx)(pins:List (Ml×Obj))(σ:St)(Q:Bool->Hp->Prop)(b:Bool)(s':Mi):Prop:=∃H',Inv X pins σ H' s'/\Q b H'
def AP(X:Cx)(pins:List (Ml×Obj))(σ:St)(Q:List V->Hp->Prop)(us:List Mg)(s':Mi):Prop:=∃vs H',Inv X pins σ H' s'/\m8 vs us/\Q vs H'
def SP(X:Cx)(pins:List (Ml×Obj))(D:Ends)(f:Flow)(s':Mi):Prop:=
 match f with
 | .next=>∃ σ' H',Inv X pins σ' H' s'/\D.nx σ' H'
 | .brk=>∃ σ' H',Inv X pins σ' H' s'/\D.bk σ' H'
 | .cont=>∃ σ' H',Inv X pins σ' H' s'/\D.ct σ' H'
 | .ret u=>∃v σ' H',Inv X pins σ' H' s'/\RelV v u/\D.rt v H'
def PE(X:Cx)(e:MJ)(t:TE):Prop:=
 ∀(pins:List (Ml×Obj)) (s:Mi) (σ:St) (H:Hp) (Q:VK),Inv X pins σ H s->t σ H Q->wpAny (model X.prog X.w) X.A (eval e X.env) (EP X pins σ Q) X.xe s
def PT(X:Cx)(e:MJ)(t:TT):Prop:=
 ∀(pins:List (Ml×Obj)) (s:Mi) (σ:St) (H:Hp) (Q:Bool->Hp->Prop),Inv X pins σ H s->t σ H Q->wpAny (model X.prog X.w) X.A (isTrue e X.env (eval e X.env)) (TP X pins σ Q) X.xe s
def PW(X:Cx)(e:MJ)(t:TT):Prop:=
 ∀(whole:Sem Mg) (pins:List (Ml×Obj)) (s:Mi) (σ:St) (H:Hp) (Q:Bool->Hp->Prop),Inv X pins σ H s->t σ H Q->wpAny (model X.prog X.w) X.A (isTrue e X.env whole) (TP X pins σ Q) X.xe s
theorem PW.pt{X:Cx}{e:MJ}{t:TT}(h:PW X e t):PT X e t:=h _
def PA(X:Cx)(es:List MJ)(t:TA):Prop:=
 ∀(pos:Pos) (pins:List (Ml×Obj)) (s:Mi) (σ:St) (H:Hp) (Q:List V->Hp->Prop),Inv X pins σ H s->t σ H Q->wpAny (model X.prog X.w) X.A (spliced (backTo pos (starEach es X.env))) (AP X pins σ Q) X.xe s
def PS(X:Cx)(st:ML)(t:TS):Prop:=
 ∀(pins:List (Ml×Obj)) (s:Mi) (σ:St) (H:Hp) (D:Ends),Inv X pins σ H s->t D σ H->wpAny (model X.prog X.w) X.A (exec st X.env) (SP X pins D) X.xe s
def PSs(X:Cx)(st:List ML)(t:TS):Prop:=
 ∀(pins:List (Ml×Obj)) (s:Mi) (σ:St) (H:Hp) (D:Ends),Inv X pins σ H s->t D σ H->wpAny (model X.prog X.w) X.A (execs st X.env) (SP X pins D) X.xe s
theorem qW{α:Type}{t:Sem α}{Q Q':α->Mi->Prop}{M:Model}{A:MQ}{E:Mg->Mi->Prop}{s:Mi}(h:wpAny M A t Q E s)(hQ:∀a s,Q a s->Q' a s):wpAny M A t Q' E s:=Nu h hQ fun _ _ x=>x
end L2
namespace L2
open PySem PySem.Spec PyProof.Rows
section
variable{X:Cx}
theorem bin{a b:MJ}{ta tb:TE}(ha:PE X a ta)(hb:PE X b tb){pins:List (Ml×Obj)}{s:Mi}{σ:St}{H:Hp}{R:V->V->Hp->Prop}(I:Inv X pins σ H s)(h:ta σ H fun x H1=>tb σ H1 fun y H2=>R x y H2)
  {α:Type} {Q:α->Mi->Prop} {f:Mg->Mg->Sem α}
  (hf:∀v u s2 x y H2,Inv X pins σ H2 s2->RelV x v->RelV y u->R x y H2->wpAny (model X.prog X.w) X.A (f v u) Q X.xe s2) :
  wpAny (model X.prog X.w) X.A (eval a X.env) (fun v s₁=>wpAny (model X.prog X.w) X.A (eval b X.env) (fun u s₂=>wpAny (model X.prog X.w) X.A (f v u) Q X.xe s₂) X.xe s₁) X.xe s:=by
 refine qW (ha pins s σ H _ I h) fun v s1 ⟨x,H1,I1,r1,q1⟩=>?_
 refine qW (hb pins s1 σ H1 _ I1 q1) fun u s2 ⟨y,H2,I2,r2,q2⟩=>?_
 exact hf v u s2 x y H2 I2 r1 r2 q2
def HB(i:Nat):TE:=fun σ H Q=>∃v,σ[i]?=some (some v)/\Q v H
def tC(v:V):TE:=fun _ H Q=>Q v H
theorem li{i:Nat}{x:Str}{pos:Pos}(hN:X.N[i]?=some x)(hv:BS X.env.scope x)(hd:(x==("__debug__" : Str))=false:=by decide)(hcd:(x==("__classdict__" : Str))=false:=by decide):PE X (.Name x pos) (HB i):=by
 intro pins s σ H Q I h
 obtain⟨v,e,h⟩:=h
 obtain⟨m,hn,hl⟩:=I.loc
 obtain⟨u,r,l⟩:=hl i x v hN e hv
 have fin:EP X pins σ Q u s:=⟨v,H,I,r,h⟩
 rcases l with ⟨hk,hm⟩ | ⟨hk,c,hc,hcell⟩
 ·exact wpAny_Name (wpAny_loadName_local I.ok.kind hk hn hm fin) hd
 ·rcases hk with hk | hk
  ·exact wpAny_Name (wpAny_loadName_cell I.ok.kind hk hc hcell fin) hd
  ·exact wpAny_Name (wpAny_loadName_free I.ok.kind hk hc hcell fin hcd) hd
theorem GS{i j pos}:PE X (.Constant (.int i) j pos) (tC (.int i)):=fun _ _ _ H _ I h=>wpAny_Constant_int ⟨.int i,H,I.tok _,⟨_,rfl⟩,h⟩
theorem Jh{b j pos}:PE X (.Constant (.bool b) j pos) (tC (.bl b)):=fun _ _ _ H _ I h=>Constant_bool ⟨.bl b,H,I,rfl,h⟩
theorem HC{j pos}:PE X (.Constant .none j pos) (tC .non):=fun _ _ _ H _ I h=>Constant_none ⟨.non,H,I,rfl,h⟩
theorem Hr{x j pos}:PE X (.Constant (.str x) j pos) (tC (.str x)):=fun _ _ _ H _ I h=>Calls.Constant_str ⟨.str x,H,I.tok _,⟨_,rfl⟩,h⟩
def Gl(X:Cx)(x:Str):Prop:=X.env.kindOf x=some .globalImplicit
theorem ju{E:Mg->Mi->Prop}{pins:List (Ml×Obj)}{s:Mi}{σ:St}{H:Hp}{x:Str}{u:Mg}{pos:Pos}{Q:Mg->Mi->Prop}(I:Inv X pins σ H s)(hg:Gl X x)(hm:X.mg x=some u)(h:Q u s)
  (hd:(x==("__debug__" : Str))=false:=by decide):wpAny (model X.prog X.w) X.A (eval (.Name x pos) X.env) Q E s:=
 Calls.Name_function_global I.ok.kind hg (Calls.loadGlobal_global (by rw[I.ok.glob];exact I.mod.glob.keeps I.bk) hm h) hd
theorem cT{E:Mg->Mi->Prop}{pins:List (Ml×Obj)}{s:Mi}{σ:St}{H:Hp}{x:Str}{u:Mg}{pos:Pos}{Q:Mg->Mi->Prop}(I:Inv X pins σ H s)(hg:Gl X x)(hm:X.mg x=none)(hv:bootBuiltins x=some u)(h:Q u s)
  (hn:x ≠ "__name__":=by decide) (hd:(x==("__debug__" : Str))=false:=by decide):wpAny (model X.prog X.w) X.A (eval (.Name x pos) X.env) Q E s:=by
 obtain⟨mb,h1,h2⟩:=I.mod.blt
 exact Calls.Name_function_global I.ok.kind hg (Calls.loadGlobal_builtin (by rw[I.ok.glob];exact I.mod.glob.keeps I.bk) hm (by rw[I.ok.blt];exact h1.keeps I.bk) ((h2 x hn).trans hv) h) hd
theorem jH{x:Str}{v:V}{u:Mg}{pos:Pos}(hg:Gl X x)(hm:X.mg x=some u)(r:RelV v u)(hd:(x==("__debug__" : Str))=false:=by decide):PE X (.Name x pos) (tC v):=
 fun _ _ _ H _ I h=>ju I hg hm ⟨v,H,I,r,h⟩ hd
variable{a b:MJ}{ta tb:TE}{pos:Pos}
variable{tA tB':TT}{rest:List MJ}
def KO(t u:TT):TT:=fun σ H Q=>t σ H fun c H1=>if c=true then u σ H1 Q else Q false H1
def L5(t u:TT):TT:=fun σ H Q=>t σ H fun c H1=>if c=true then Q true H1 else u σ H1 Q
def Kz(t:TT):TT:=fun σ H Q=>t σ H fun c H1=>Q (!c) H1
theorem BJ(ha:PT X a tA):PW X (.BoolOp .And [a] pos) tA:=by
 intro wh pins s σ H Q I h
 refine isTrue_and (qW (ha pins s σ H Q I h) fun c s1 e=>?_)
 cases c with
 | true=>exact isTrue_and_nil e
 | false=>exact e
theorem HN(ha:PT X a tA):PW X (.BoolOp .Or [a] pos) tA:=by
 intro wh pins s σ H Q I h
 refine isTrue_or (qW (ha pins s σ H Q I h) fun c s1 e=>?_)
 cases c with
 | false=>exact isTrue_or_nil e
 | true=>exact e
theorem DU(ha:PT X a tA)(hb:PW X (.BoolOp .And (b::rest) pos) tB'):PW X (.BoolOp .And (a::b::rest) pos) (KO tA tB'):=by
 intro wh pins s σ H Q I h
 refine isTrue_and (qW (ha pins s σ H _ I h) fun c s1 ⟨H1,I1,q1⟩=>?_)
 cases c with
 | true=>exact hb wh pins s1 σ H1 Q I1 q1
 | false=>exact⟨H1,I1,q1⟩
theorem JB(ha:PT X a tA)(hb:PW X (.BoolOp .Or (b::rest) pos) tB'):PW X (.BoolOp .Or (a::b::rest) pos) (L5 tA tB'):=by
 intro wh pins s σ H Q I h
 refine isTrue_or (qW (ha pins s σ H _ I h) fun c s1 ⟨H1,I1,q1⟩=>?_)
 cases c with
 | true=>exact⟨H1,I1,q1⟩
 | false=>exact hb wh pins s1 σ H1 Q I1 q1
theorem pT(ha:PT X a tA):PT X (.UnaryOp .Not a pos) (Kz tA):=by
 intro pins s σ H Q I h
 exact isTrue_not (ha pins s σ H (fun c H1=>Q (!c) H1) I h)
def IM(ta tb:TE):TE:=fun σ H Q=>ta σ H fun x H1=>∃c,x=.bl c/\if c=true then tb σ H1 Q else Q (.bl false) H1
def Jw(ta:TE):TE:=fun σ H Q=>ta σ H fun x H1=>∃c,x=.bl c/\Q (.bl (!c)) H1
theorem pR{op}{t:TE}(h:PE X a t):PE X (.BoolOp op [a] pos) t:=fun pins s σ H Q I hw=>BoolOp_one (h pins s σ H Q I hw)
theorem pZ(ha:PE X a ta)(hb:PE X (.BoolOp .And (b::rest) pos) tb):PE X (.BoolOp .And (a::b::rest) pos) (IM ta tb):=by
 intro pins s σ H Q I h
 refine BoolOp_and (qW (ha pins s σ H _ I h) fun v s1 ⟨x,H1,I1,r1,q1⟩=>?_)
 obtain⟨c,rfl,q1⟩:=q1
 cases r1
 refine wpAny_truthy_bool ?_
 cases c with
 | true=>exact hb pins s1 σ H1 Q I1 q1
 | false=>exact⟨.bl false,H1,I1,rfl,q1⟩
theorem qh(ha:PE X a ta):PE X (.UnaryOp .Not a pos) (Jw ta):=by
 intro pins s σ H Q I h
 refine UnaryOp_ (qW (ha pins s σ H _ I h) fun v s1 ⟨x,H1,I1,r1,q1⟩=>?_)
 obtain⟨c,rfl,q1⟩:=q1
 cases r1
 exact not_of (wpAny_truthy_bool ⟨.bl (!c),H1,I1,rfl,q1⟩)
def L3(t:TT)(ta tb:TE):TE:=fun σ H Q=>t σ H fun c H1=>if c=true then ta σ H1 Q else tb σ H1 Q
theorem n_{c:MJ}(hc:PT X c tA)(ha:PE X a ta)(hb:PE X b tb):PE X (.IfExp c a b pos) (L3 tA ta tb):=by
 intro pins s σ H Q I h
 refine wpAny_IfExp (qW (hc pins s σ H _ I h) fun d s1 ⟨H1,I1,q1⟩=>?_)
 cases d with
 | true=>exact ha pins s1 σ H1 Q I1 q1
 | false=>exact hb pins s1 σ H1 Q I1 q1
end
end L2
namespace L2
open PySem PySem.Spec PyProof.Rows
def ua(K:Mj)(H:Hp)(a:Ml)(xs:List V):Prop:=
 Rd H a (.lst xs) \/
  ∃(o:Obj) (its:Array Mg) (n:Nat),K.lookup a=some o/\o.cls=.type "list" /\ o.dict=none/\o.data=.seq its n/\its.size<=sizeLine/\m8 xs its.toList
def uT(K:Mj)(H:Hp)(a:Ml)(xs:List V):Prop:=
 Rd H a (.tup xs) \/
  ∃(o:Obj) (its:Array Mg) (n:Nat),K.lookup a=some o/\o.cls=.type "tuple" /\ o.dict=none/\o.data=.seq its n/\its.size<=sizeLine/\m8 xs its.toList
def Kt:Mg->Me V
 | .none=>some .non
 | .bool b=>some (.bl b)
 | .int i _=>some (.int i)
 | .str x _=>some (.str x)
 | .bytes b _=>some (.byt b)
 | .float b _=>some (.flt b)
 | .ref a=>some (.ref a)
 | .type n=>some (.ty n)
 | _=>none
theorem RelV.abs{x:V}{u:Mg}(r:RelV x u):Kt u=some x:=by
 cases x with
 | non=>cases r;rfl
 | bl _=>cases r;rfl
 | int _=>obtain⟨t,rfl⟩:=r;rfl
 | str _=>obtain⟨t,rfl⟩:=r;rfl
 | byt _=>obtain⟨t,rfl⟩:=r;rfl
 | flt _=>obtain⟨t,rfl⟩:=r;rfl
 | ref _=>cases r;rfl
 | ty _=>cases r;rfl
theorem RelV.inj{x y:V}{u:Mg}(r:RelV x u)(q:RelV y u):x=y:=ME (r.abs.symm.trans q.abs)
theorem m8.inj:∀{xs ys:List V} {us:List Mg},m8 xs us->m8 ys us->xs=ys
 | _,_,_,.nil,.nil=>rfl
 | _,_,_,.cons r t,.cons r' t'=>by rw[r.inj r',m8.inj t t']
section
variable{X:Cx}{pins:List (Ml×Obj)}{σ:St}{H:Hp}{s:Mi}{a:Ml}{xs ys:List V}
theorem ua.of{K:Mj}(h:H a=some (.lst xs)):ua K H a xs:=.inl (.inl h)
theorem uT.of{K:Mj}(h:H a=some (.tup xs)):uT K H a xs:=.inl (.inl h)
theorem Inv.list(I:Inv X pins σ H s)(h:ua X.K H a xs):∃its:List Mg,m8 xs its/\PlainL s.heap a its.toArray/\xs.length<=sizeLine:=by
 rcases h with h | ⟨o,its,n,hk,hc,hd,hs,hz,r⟩
 ·obtain⟨z,its,n,r,e⟩:=h.ok I.hok
  exact⟨its,r,⟨_,n,e,rfl,rfl,rfl⟩,z⟩
 ·refine⟨its.toList,r,⟨o,n,I.kIn a o hk,hc,hd,by simpa using hs⟩,?_⟩
  have e:=r.length
  simp only[M1] at e
  omega
theorem Inv.tuple(I:Inv X pins σ H s)(h:uT X.K H a xs):∃its:List Mg,m8 xs its/\IsTup s.heap a its.toArray/\xs.length<=sizeLine:=by
 rcases h with h | ⟨o,its,n,hk,hc,hd,hs,hz,r⟩
 ·obtain⟨z,its,r,p⟩:=h.ok I.hok
  exact⟨its,r,p.is,z⟩
 ·refine⟨its.toList,r,⟨o,I.kIn a o hk,hc,n,by simpa using hs⟩,?_⟩
  have e:=r.length
  simp only[M1] at e
  omega
theorem Inv.list_inj(I:Inv X pins σ H s)(h:ua X.K H a xs)(h':ua X.K H a ys):xs=ys:=by
 obtain⟨its,r,⟨o,n,e,_,_,d⟩,_⟩:=I.list h
 obtain⟨its',r',⟨o',n',e',_,_,d'⟩,_⟩:=I.list h'
 rw[e] at e';cases e'
 rw[d] at d'
 injection d' with d1 _
 have:its=its':=by simpa using congrArg Array.toList d1
 subst this
 exact r.inj r'
theorem Inv.tuple_inj(I:Inv X pins σ H s)(h:uT X.K H a xs)(h':uT X.K H a ys):xs=ys:=by
 obtain⟨its,r,⟨o,e,_,n,d⟩,_⟩:=I.tuple h
 obtain⟨its',r',⟨o',e',_,n',d'⟩,_⟩:=I.tuple h'
 rw[e] at e';cases e'
 rw[d] at d'
 injection d' with d1 _
 have:its=its':=by simpa using congrArg Array.toList d1
 subst this
 exact r.inj r'
end
abbrev Cx.wish(X:Cx)(E:Mg->Mi->Prop):Cx:={X with xe:=E}
abbrev Cx.nox(X:Cx):Cx:=X.wish fun _ _=>False
theorem Cx.Ok.wish{X:Cx}(ok:X.Ok)(E:Mg->Mi->Prop):(X.wish E).Ok:=
 ⟨ok.mod,ok.kind,ok.glob,ok.blt,ok.above,ok.inj,ok.has,ok.cab,ok.hd,ok.frames,ok.stk,ok.exf,ok.bs,ok.bsz,ok.noex,ok.exfs,ok.funs,ok.frf⟩
theorem Cx.Ok.unwish{X:Cx}{E:Mg->Mi->Prop}(ok:(X.wish E).Ok):X.Ok:=
 ⟨ok.mod,ok.kind,ok.glob,ok.blt,ok.above,ok.inj,ok.has,ok.cab,ok.hd,ok.frames,ok.stk,ok.exf,ok.bs,ok.bsz,ok.noex,ok.exfs,ok.funs,ok.frf⟩
section
variable{X:Cx}{pins:List (Ml×Obj)}{σ:St}{H:Hp}{s:Mi}{E:Mg->Mi->Prop}
theorem Inv.wish(I:Inv X pins σ H s)(E:Mg->Mi->Prop):Inv (X.wish E) pins σ H s:=⟨I.ok.wish E,I.os,I.bare,I.base,I.loc,I.cell,I.free,I.freeC,I.pin,I.hok,I.len⟩
theorem Inv.unwish(I:Inv (X.wish E) pins σ H s):Inv X pins σ H s:=⟨I.ok.unwish,I.os,I.bare,I.base,I.loc,I.cell,I.free,I.freeC,I.pin,I.hok,I.len⟩
theorem SP.unwish{D:Ends}{f:Flow}{s':Mi}(h:SP (X.wish E) pins D f s'):SP X pins D f s':=by
 cases f with
 | next=>obtain⟨σ',H',I,q⟩:=h;exact⟨σ',H',I.unwish,q⟩
 | brk=>obtain⟨σ',H',I,q⟩:=h;exact⟨σ',H',I.unwish,q⟩
 | cont=>obtain⟨σ',H',I,q⟩:=h;exact⟨σ',H',I.unwish,q⟩
 | ret u=>obtain⟨v,σ',H',I,r,q⟩:=h;exact⟨v,σ',H',I.unwish,r,q⟩
theorem PE.nox{e:MJ}{t:TE}(h:PE X.nox e t):PE X e t:=fun pins s σ H Q I hw =>
 Nu (h pins s σ H Q (I.wish _) hw) (fun _ _ ⟨v,H',I',r,q⟩=>⟨v,H',I'.unwish,r,q⟩) fun _ _ z=>False.elim z
theorem PT.nox{e:MJ}{t:TT}(h:PT X.nox e t):PT X e t:=fun pins s σ H Q I hw =>
 Nu (h pins s σ H Q (I.wish _) hw) (fun _ _ ⟨H',I',q⟩=>⟨H',I'.unwish,q⟩) fun _ _ z=>False.elim z
theorem PSs.nox{st:List ML}{t:TS}(h:PSs X.nox st t):PSs X st t:=fun pins s σ H D I hw =>
 Nu (h pins s σ H D (I.wish _) hw) (fun _ _ q=>q.unwish) fun _ _ z=>False.elim z
end
section
variable{X:Cx}{st:ML}{rest:List ML}{t u:TS}{e:MJ}{te:TE}{pos:Pos}
def Iq:TS:=fun D σ H=>D.nx σ H
def Kg(t u:TS):TS:=fun D σ H=>t {D with nx:=u D} σ H
theorem xy:PSs X [] Iq:=fun _ _ σ H _ I h=>wpAny_execs_nil ⟨σ,H,I,h⟩
theorem d_(h1:PS X st t)(h2:PSs X rest u):PSs X (st::rest) (Kg t u):=by
 intro pins s σ H D I h
 refine wpAny_execs_cons (qW (h1 pins s σ H {D with nx:=u D} I h) fun f s1 q=>?_)
 cases f with
 | next =>
  obtain⟨σ',H',I',q⟩:=q
  exact h2 pins s1 σ' H' D I' q
 | ret v=>exact q
 | brk=>exact q
 | cont=>exact q
theorem eP(h1:PS X st t):PSs X [st] t:=by
 intro pins s σ H D I h
 refine wpAny_execs_cons (qW (h1 pins s σ H D I h) fun f s1 q=>?_)
 cases f with
 | next=>exact wpAny_execs_nil q
 | ret v=>exact q
 | brk=>exact q
 | cont=>exact q
theorem Inv.quiet{pins:List (Ml×Obj)}{σ:St}{H:Hp}{s:Mi}(I:Inv X pins σ H s):interactive X.env=false:=by simp[interactive,I.ok.kind]
def Ju(te:TE):TS:=fun D σ H=>te σ H fun _ H1=>D.nx σ H1
theorem oR(he:PE X e te)(hs:swapsWith e none pos.line X.env=pure false:=by rfl):PS X (.Expr e pos) (Ju te):=by
 intro pins s σ H D I h
 exact wpAny_Expr_any (qW (he pins s σ H _ I h) fun v s1 ⟨x,H1,I1,r1,q1⟩=>⟨σ,H1,I1,q1⟩) I.quiet hs
def Lh(te:TE):TS:=fun D σ H=>te σ H D.rt
theorem lB(he:PE X e te):PS X (.Return (some e) pos) (Lh te):=by
 intro pins s σ H D I h
 exact wpAny_Return_some (qW (he pins s σ H _ I h) fun v s1 ⟨x,H1,I1,r1,q1⟩=>⟨x,σ,H1,I1,r1,q1⟩)
def Kl(c:TT)(t u:TS):TS:=fun D σ H=>c σ H fun b H1=>if b=true then t D σ H1 else u D σ H1
theorem j7{c:MJ}{a b:List ML}{tc:TT}(hc:PT X c tc)(ha:PSs X a t)(hb:PSs X b u):PS X (.If c a b pos) (Kl tc t u):=by
 intro pins s σ H D I h
 refine wpAny_If (qW (hc pins s σ H _ I h) fun d s1 ⟨H1,I1,q1⟩=>?_)
 cases d with
 | true=>exact ha pins s1 σ H1 D I1 q1
 | false=>exact hb pins s1 σ H1 D I1 q1
end
abbrev TG:=V->St->Hp->(St->Hp->Prop)->Prop
abbrev Fb:=List V->St->Hp->(St->Hp->Prop)->Prop
def PG(X:Cx)(target:MJ)(t:TG):Prop:=
 ∀(pins:List (Ml×Obj)) (s:Mi) (σ:St) (H:Hp) (v:V) (u:Mg) (Q:St->Hp->Prop),Inv X pins σ H s->RelV v u->t v σ H Q ->
  wpAny (model X.prog X.w) X.A (assign target X.env u) (fun _ s'=>∃ σ' H',Inv X pins σ' H' s'/\Q σ' H') X.xe s
def PGs(X:Cx)(ts:List MJ)(t:Fb):Prop:=
 ∀(pins:List (Ml×Obj)) (s:Mi) (σ:St) (H:Hp) (vs:List V) (us:List Mg) (Q:St->Hp->Prop),Inv X pins σ H s->m8 vs us->t vs σ H Q ->
  wpAny (model X.prog X.w) X.A (assignInOrder ((assignEach ts X.env).map (·.2)) us) (fun _ s'=>∃ σ' H',Inv X pins σ' H' s'/\Q σ' H') X.xe s
section
variable{X:Cx}{pos:Pos}
def Gx(i:Nat):TG:=fun v σ H Q=>Q (σ.set i (some v)) H
theorem oY{i:Nat}{x:Str}(hN:X.N.Nodup)(hi:X.N[i]?=some x)(hx:Loc X.env.scope x)(hf:X.fn x=true\/X.env.scope.names.lookup x=some .local:=by first | exact .inl rfl | exact .inr rfl | assumption):PG X (.Name x pos) (Gx i):=by
 intro pins s σ H v u Q I r h
 exact wpAny_assign_Name (Af I hN hi hx r (fun s' I'=>⟨_,H,I',h⟩) hf)
def K5:Fb:=fun vs σ H Q=>vs=[]/\Q σ H
def IN(t:TG)(u:Fb):Fb:=fun vs σ H Q=>∃v r,vs=v::r/\t v σ H fun σ' H'=>u r σ' H' Q
theorem Fq:PGs X [] K5:=by
 intro pins s σ H vs us Q I r h
 obtain⟨e,h⟩:=h
 subst e
 cases r
 exact assignInOrder_nil ⟨σ,H,I,h⟩
theorem Ea{e:MJ}{es:List MJ}{t:TG}{u:Fb}(h1:PG X e t)(h2:PGs X es u)
  (hs:(assignEach (e::es) X.env).map (·.2)=assign e X.env::(assignEach es X.env).map (·.2):=by rfl):PGs X (e::es) (IN t u):=by
 intro pins s σ H vs us Q I r h
 obtain⟨v,vr,e1,h⟩:=h
 subst e1
 cases r with
 | cons r rr =>
  rw[hs]
  refine assignInOrder_cons (qW (h1 pins s σ H _ _ _ I r h) fun _ s1 ⟨σ1,H1,I1,q1⟩=>?_)
  exact h2 pins s1 σ1 H1 _ _ Q I1 rr q1
def Kq(K:Mj)(n:Nat)(t:Fb):TG:=fun v σ H Q=>∃a xs,v=.ref a/\uT K H a xs/\xs.length=n/\t xs σ H Q
theorem pS{es:List MJ}{k:Nat}{t:Fb}{n:Nat}(hc:X.calm=true)(h:PGs X es t)
  (hn:(assignEach es X.env).length=n:=by rfl) (hst:(assignEach es X.env).findIdx? (·.1)=none:=by rfl):PG X (.Tuple es k pos) (Kq X.K n t):=by
 intro pins s σ H v u Q I r hw
 obtain⟨a,xs,e1,hq,hl,hw⟩:=hw
 subst e1
 cases r
 obtain⟨its,rv,ht,hz⟩:=I.tuple hq
 refine assign_Tuple_tuple (I.ok.hd hc) ht (by simp[hn,<- hl,rv.length]) hst fun h' hx=>?_
 have I1:Inv X pins σ H {s with heap:=h' }:=I.kept (t':=s.toks) fun b o e=>hx b o (MM (MD e)) e
 exact h pins _ σ H xs _ Q I1 (by simpa using rv) hw
def Jp(te:TE)(g:TG):TS:=fun D σ H=>te σ H fun x H1=>g x σ H1 D.nx
theorem pQ{tg e:MJ}{te:TE}{g:TG}(he:PE X e te)(hg:PG X tg g)(hs:swapsWithSole [tg] e pos.line X.env=pure false:=by rfl)(hw:swappedStores [tg] e X.env=pure none:=by rfl)
  (h1:(assignEach [tg] X.env).map (·.2)=[assign tg X.env]:=by rfl):PS X (.Assign [tg] e pos) (Jp te g):=by
 intro pins s σ H D I h
 refine wpAny_Assign_stores (qW (he pins s σ H _ I h) fun v s1 ⟨x,H1,I1,r1,q1⟩=>?_) hs hw
 rw[h1]
 exact qW (hg pins s1 σ H1 x v _ I1 r1 q1) fun _ s2 q=>q
theorem kZ{i:Nat}{x:Str}{e:MJ}{te:TE}{pos':Pos}(hN:X.N.Nodup)(hi:X.N[i]?=some x)(hx:Loc X.env.scope x)(he:PE X e te)(hs:swapsWith e (some (.Name x pos')) pos.line X.env=pure false:=by rfl)(hf:X.fn x=true\/X.env.scope.names.lookup x=some .local:=by first | exact .inl rfl | exact .inr rfl | assumption) :
  PS X (.Assign [.Name x pos'] e pos) (Jp te (Gx i)):=by
 intro pins s σ H D I h
 refine wpAny_Assign_Name (qW (he pins s σ H _ I h) fun v s1 ⟨y,H1,I1,r1,q1⟩=>?_) hs
 exact Af I1 hN hi hx r1 (fun s2 I2=>⟨_,H1,I2,q1⟩) hf
end
section
variable{X:Cx}{pos:Pos}
end
structure It where
 go:Nat->Hp->Prop
 yld:Nat->Hp->V->Hp->Prop
 stop:Nat->Hp->Prop
def uB(X:Cx)(pins:List (Ml×Obj))(H:Hp)(b:Ml):Prop:=
 H b=none/\b≠X.env.locals/\b∉X.fs/\(b∈X.ex\/X.s₀.heap.objs.size<=b)/\(∀x c,X.env.cells.lookup x=some c->c≠b)/\∀p∈X.pn++pins,p.1≠b
theorem Inv.fpOk{X:Cx}{pins:List (Ml×Obj)}{σ:St}{H H':Hp}{s:Mi}{b:Ml}(I:Inv X pins σ H s)(hb:s.heap.objs.size<=b)(hn:H' b=none):uB X pins H' b:=by
 refine⟨hn,Nat.ne_of_gt (MB I.lt hb),I.nofs hb,.inr (MN I.sz hb),fun x c e z=>?_,fun p hp z=>?_⟩
 ·obtain⟨v,q⟩:=I.cell x c e
  exact MY (MB q.lt (by rw[z];exact hb)) (Ni _)
 ·exact MY (MB (MD (I.pin p hp).1) (by rw[z];exact hb)) (Ni _)
structure Turn (P:Mv) (w:MH) (K:Mj) (tg:MJ) (J:It) (fp:List Ml) (it:Ml) (tn:Nat->MI->Prop):Prop where
 mem:it∈fp
 obj:∀i h,tn i h->∀b∈fp,∃o,h.get? b=some o/\∀v,o.data≠.cell v
 keep:∀i h h',tn i h->(∀b∈fp,∀o,h.get? b=some o->h'.get? b=some o)->tn i h'
 item:∀(X:Cx),X.prog=P->X.w=w->X.K=K->X.calm=true->∀(i:Nat) (pins:List (Ml×Obj)) (s:Mi) (σ:St) (H:Hp) (E:Mg->Mi->Prop),Inv X pins σ H s->(∀b∈fp,uB X pins H b)->tn i s.heap->J.go i H ->
  wpAny (model P w) X.A (pyNext (.ref it)) (fun r s1=>∃u,r=some u /\
   wpAny (model P w) X.A (letOwnedTupleGo tg (.ref it) u) (fun _ s2=>∃x H',Inv X pins σ H' s2/\RelV x u/\J.yld i H x H'/\tn (i+1) s2.heap/\∀b∈fp,H' b=none) E s1) E s
 done:∀(X:Cx),X.prog=P->X.w=w->X.K=K->X.calm=true->∀(i:Nat) (pins:List (Ml×Obj)) (s:Mi) (σ:St) (H:Hp) (E:Mg->Mi->Prop),Inv X pins σ H s->(∀b∈fp,uB X pins H b)->tn i s.heap->J.stop i H ->
  wpAny (model P w) X.A (pyNext (.ref it)) (fun r s1=>r=none/\Inv X pins σ H s1) E s
 self:∀(A:MQ) (i:Nat) (s:Mi) (Q:Mg->Mi->Prop) (E:Mg->Mi->Prop),tn i s.heap->Q (.ref it) s->wpAny (model P w) A (pyIter (.ref it)) Q E s
abbrev TI:=St->Hp->(It->Hp->Prop)->Prop
def LA(X:Cx)(pins:List (Ml×Obj))(σ:St)(tg:MJ)(R:It->Hp->Prop)(itv:Mg)(s2:Mi):Prop:=
 ∃(it:Ml) (fp:List Ml) (tn:Nat->MI->Prop) (J:It) (H':Hp),itv=.ref it/\Inv X pins σ H' s2/\Turn X.prog X.w X.K tg J fp it tn/\tn 0 s2.heap/\(∀b∈fp,uB X pins H' b)/\R J H'
def PI(X:Cx)(tg iter:MJ)(wi:TI):Prop:=
 ∀(pins:List (Ml×Obj)) (s:Mi) (σ:St) (H:Hp) (R:It->Hp->Prop),Inv X pins σ H s->wi σ H R ->
  wpAny (model X.prog X.w) X.A (eval iter X.env) (fun v s1=>wpAny (model X.prog X.w) X.A (pyIter v) (LA X pins σ tg R) X.xe s1) X.xe s
theorem BV {M:Model} {A:MQ} {E:Mg->Mi->Prop} {s:Mi} {tg:MJ} {it:Ml} {u:Mg} {o:Obj} {n:String} {vs:Array Mg} {Q:Unit->Mi->Prop} (ho:s.heap.get? it=some o) (hc:o.cls=.type n) (hd:o.data=.fields vs)
    (hn:["enumerate","zip","dict_itemiterator","dict_reverseitemiterator","odict_iterator","itertools.zip_longest","itertools.pairwise"].contains n=false) (hQ:Q () s):wpAny M A (letOwnedTupleGo tg (.ref it) u) Q E s:=by
  unfold letOwnedTupleGo
  cases tg<;>first
    | exact Mm hQ
    | (cases u<;>first
        | exact Mm hQ
        | (refine Mf (wpAny_load ho ?_)
           rw[hc,hd]
           show wpAny M A (if (["enumerate","zip","dict_itemiterator","dict_reverseitemiterator","odict_iterator","itertools.zip_longest","itertools.pairwise"].contains n&&vs[0]?==some (rawInt _))=true then _ else _) Q E s
           rw[Mx (by intro h;rw[hn,Bool.false_and] at h;cases h)]
           exact Mm hQ))
noncomputable def Kd(K:Mj)(a:Ml):It:=
 ⟨fun i H=>∃xs x,ua K H a xs/\xs[i]?=some x,fun i H x H'=>H'=H/\∀xs,ua K H a xs->xs[i]?=some x,fun i H=>∃xs,ua K H a xs/\xs.length<=i⟩
def Kx(K:Mj)(a:Ml):It:=
 ⟨fun i H=>∃xs x,uT K H a xs/\xs[i]?=some x,fun i H x H'=>H'=H/\∀xs,uT K H a xs->xs[i]?=some x,fun i H=>∃xs,uT K H a xs/\xs.length<=i⟩
noncomputable def Ib(lo:Int)(n:Nat):It:=⟨fun i _=>i<n,fun i H x H'=>H'=H/\x=.int (lo+i),fun i _=>n<=i⟩
theorem CB{P:Mv}{w:MH}{K:Mj}{tg:MJ}(a it:Ml):Turn P w K tg (Kd K a) [it] it (fun i h=>h.IsListIter it a i) where
 mem:=by simp
 obj:=fun i h st b hb=>by
  have e:b=it:=by simpa using hb
  subst e
  obtain⟨o,e,c,d⟩:=st
  exact⟨o,e,fun v z=>by rw[d] at z;cases z⟩
 keep:=fun i h h' st k=>st.at fun o e=>k it (by simp) o e
 item:=by
  intro X hP hw hK hc i pins s σ H E I hf st hg
  subst hP hw hK
  obtain⟨xs,x,hq,hx⟩:=hg
  obtain⟨its,rv,p,hz⟩:=I.list hq
  obtain⟨u,hu,ru⟩:=rv.get hx
  obtain⟨f0,f1,f2,f3,f4,f5⟩:=hf it (by simp)
  refine wpAny_pyNext_list_item st p.isList (x:=u) (by simpa using hu) fun h' st' sb=>?_
  have I1:Inv X pins σ H {s with heap:=h' }:=I.turned (t':=s.toks) (fun b o hb e=>(sb.2 b hb).trans e) f0 f1 f3 f4 f5
  obtain⟨o,e,c,d⟩:=id st'
  exact⟨u,rfl,BV (s:={s with heap:=h' }) e c d (by decide) ⟨x,H,I1,ru,⟨rfl,fun ys hy=>by rw[I.list_inj hy hq];exact hx⟩,st',fun b hb=>(hf b hb).1⟩⟩
 done:=by
  intro X hP hw hK hc i pins s σ H E I hf st hg
  subst hP hw hK
  obtain⟨xs,hq,hx⟩:=hg
  obtain⟨its,rv,p,hz⟩:=I.list hq
  obtain⟨f0,f1,f2,f3,f4,f5⟩:=hf it (by simp)
  have hl:=rv.length
  exact wpAny_pyNext_list_end (I.ok.hd hc) st p.isList (by simp;omega) fun h' eb=>⟨rfl,I.turned (t':=s.toks) (fun b o hb e=>eb b o hb e) f0 f1 f3 f4 f5⟩
 self:=fun _ _ _ _ _ st h=>wpAny_pyIter_listiter st h
theorem Bo{P:Mv}{w:MH}{K:Mj}{tg:MJ}(a it:Ml):Turn P w K tg (Kx K a) [it] it (fun i h=>h.IsTupleIter it a i) where
 mem:=by simp
 obj:=fun i h st b hb=>by
  have e:b=it:=by simpa using hb
  subst e
  obtain⟨o,e,c,d⟩:=st
  exact⟨o,e,fun v z=>by rw[d] at z;cases z⟩
 keep:=fun i h h' st k=>st.at fun o e=>k it (by simp) o e
 item:=by
  intro X hP hw hK hc i pins s σ H E I hf st hg
  subst hP hw hK
  obtain⟨xs,x,hq,hx⟩:=hg
  obtain⟨its,rv,p,hz⟩:=I.tuple hq
  obtain⟨u,hu,ru⟩:=rv.get hx
  obtain⟨f0,f1,f2,f3,f4,f5⟩:=hf it (by simp)
  refine wpAny_pyNext_tuple_item st (show s.heap.IsTuple a its.toArray from p) (x:=u) (by simpa using hu) fun h' st' sb=>?_
  have I1:Inv X pins σ H {s with heap:=h' }:=I.turned (t':=s.toks) (fun b o hb e=>(sb.2 b hb).trans e) f0 f1 f3 f4 f5
  obtain⟨o,e,c,d⟩:=id st'
  exact⟨u,rfl,BV (s:={s with heap:=h' }) e c d (by decide) ⟨x,H,I1,ru,⟨rfl,fun ys hy=>by rw[I.tuple_inj hy hq];exact hx⟩,st',fun b hb=>(hf b hb).1⟩⟩
 done:=by
  intro X hP hw hK hc i pins s σ H E I hf st hg
  subst hP hw hK
  obtain⟨xs,hq,hx⟩:=hg
  obtain⟨its,rv,p,hz⟩:=I.tuple hq
  obtain⟨f0,f1,f2,f3,f4,f5⟩:=hf it (by simp)
  have hl:=rv.length
  exact wpAny_pyNext_tuple_end (I.ok.hd hc) st (show s.heap.IsTuple a its.toArray from p) (by simp;omega) fun h' eb=>⟨rfl,I.turned (t':=s.toks) (fun b o hb e=>eb b o hb e) f0 f1 f3 f4 f5⟩
 self:=fun _ _ _ _ _ st h=>wpAny_pyIter_tupleiter st h
theorem Bm{P:Mv}{w:MH}{K:Mj}{tg:MJ}(it:Ml)(lo:Int)(n:Nat):Turn P w K tg (Ib lo n) [it] it (fun i h=>IsRangeIter h it (lo+(i:Nat)*1) ((n:Int) - (i:Nat)) 1) where
 mem:=by simp
 obj:=fun i h st b hb=>by
  have e:b=it:=by simpa using hb
  subst e
  exact⟨_,st,fun v z=>by
   have z':Data.fields _=Data.cell v:=z
   cases z'⟩
 keep:=fun i h h' st k=>k it (by simp) _ st
 item:=by
  intro X hP hw hK hc i pins s σ H E I hf st hg
  subst hP hw hK
  obtain⟨f0,f1,f2,f3,f4,f5⟩:=hf it (by simp)
  have W:=Walks.range (prog:=X.prog) (w:=X.w) (I.ok.hd hc) it lo 1 n
  refine W.item i s _ _ hg st fun v h' tk hv st' kk=>?_
  obtain⟨t,rfl⟩:=hv
  have I1:Inv X pins σ H {s with heap:=h',toks:=tk}:=I.turned (fun b o hb e=>kk b o (by simpa using hb) e) f0 f1 f3 f4 f5
  refine⟨_,rfl,BV (s:={s with heap:=h',toks:=tk}) (n:="range_iterator") st' rfl rfl (by decide) ⟨.int (lo+i),H,I1,⟨t,?_⟩,⟨rfl,rfl⟩,st',fun b hb=>(hf b hb).1⟩⟩
  rw[Int.mul_one]
 done:=by
  intro X hP hw hK hc i pins s σ H E I hf st hg
  subst hP hw hK
  obtain⟨f0,f1,f2,f3,f4,f5⟩:=hf it (by simp)
  exact wpAny_pyNext_range_end (I.ok.hd hc) st (by have:n<=i:=hg;omega) fun h' eb=>⟨rfl,I.turned (t':=s.toks) (fun b o hb e=>eb b o hb e) f0 f1 f3 f4 f5⟩
 self:=fun _ _ _ _ _ st h=>wpAny_pyIter_rangeiter st h
end L2
namespace L2
open PySem PySem.Spec PyProof.Rows
section
variable{X:Cx}{tg:MJ}
theorem DJ{pins:List (Ml×Obj)}{σ:St}{H:Hp}{s:Mi}{R:It->Hp->Prop}{E:Mg->Mi->Prop}{lo hi:Int}{t u v:Tok}{tk:Nat}(I:Inv X pins σ H s)(h1 : -(2 ^ 62)<=lo)(h2:lo<2 ^ 62)(h3 : -(2 ^ 62)<=hi)(h4:hi<2 ^ 62)
  (q:R (Ib lo (hi - lo).toNat) H):wpAny (model X.prog X.w) X.A (pyIter (.ref s.heap.objs.size)) (LA X pins σ tg R) E {s with heap:=s.heap.push {cls:=.type "range",data:=.fields #[.int lo t,.int hi u,.int 1 v]},toks:=tk}:=by
 refine wpAny_pyIter_range (IsRange.new ..) (small_one h1 h2 h3 h4) ?_
 have I1:Inv X pins σ H {s with heap:=s.heap.push {cls:=.type "range",data:=.fields #[.int lo t,.int hi u,.int 1 v]},toks:=tk}:=I.kept fun b o e=>Mh _ e
 refine⟨(s.heap.push {cls:=.type "range",data:=.fields #[.int lo t,.int hi u,.int 1 v]}).objs.size,[(s.heap.push {cls:=.type "range",data:=.fields #[.int lo t,.int hi u,.int 1 v]}).objs.size],_,_,H,rfl,
  I1.kept (t':=tk) fun b o e=>Mh _ e,Bm _ lo (hi - lo).toNat,?_,fun b hb=>?_,q⟩
 ·have e1:lo+((0:Nat):Int)*1=lo:=by simp
  have e2:(((hi - lo).toNat:Nat):Int) - ((0:Nat):Int)=Builtin.Range.rangeSize lo hi 1:=by rw[rangeSize_one];split<;>omega
  show IsRangeIter _ _ (lo+((0:Nat):Int)*1) ((((hi - lo).toNat:Nat):Int) - ((0:Nat):Int)) 1
  rw[e1,e2]
  exact Mq _ rfl
 ·have e:b=(s.heap.push {cls:=.type "range",data:=.fields #[.int lo t,.int hi u,.int 1 v]}).objs.size:=by simpa using hb
  subst e
  exact I1.fpOk (Mw _) (I1.hok.fresh (Mw _))
def Jl(ta:TA):TI:=fun σ H R=>ta σ H fun vs H1=>∃j:Int,vs=[.int j] /\ -(2 ^ 62)<=j/\j<2 ^ 62/\R (Ib 0 j.toNat) H1
theorem iY{a:MJ}{ta:TA}{p pos:Pos}(hg:Gl X "range")(hm:X.mg "range" = none)(ha:PA X [a] ta)(hs:starEach [a] X.env=[(false,eval a X.env)]:=by rfl):PI X tg (.Call (.Name "range" p) [a] [] pos) (Jl ta):=by
 intro pins s σ H R I h
 refine Call_ (cT I hg hm boot_range (PyProof.Rows.callWith_type1 (qW (ha pos pins s σ H _ I h) fun us s1 ⟨vs,H1,I1,r1,q1⟩=>?_) hs rfl))
 obtain⟨j,e,q1,q2,q⟩:=q1
 subst e
 cases r1 with
 | cons r rr =>
  cases rr
  obtain⟨t,rfl⟩:=r
  exact call_range_1 (DJ I1 (by omega) (by omega) q1 q2 (by simpa using q))
noncomputable def K6(wi:TI)(g:TG)(tb:TS):TS:=fun D σ H=>wi σ H fun J H1=>∃W:Nat->Nat->St->Hp->Prop,(∃m,W 0 m σ H1)/\∀i m σ H,W i m σ H ->
 (J.stop i H/\D.nx σ H)\/(J.go i H/\∃N:St->Hp->Prop,(∀ σ' H',N σ' H'->∃m',m'<m/\W (i+1) m' σ' H')/\∀x H',J.yld i H x H'->g x σ H' fun σ2 H2=>tb {D with nx:=N,ct:=N,bk:=D.nx} σ2 H2)
def uh(fp:List Ml)(h:MI):List (Ml×Obj):=fp.filterMap fun b=>(h.get? b).map fun o=>(b,o)
theorem bA{fp:List Ml}{h:MI}{b:Ml}{o:Obj}(hb:b∈fp)(e:h.get? b=some o):(b,o)∈uh fp h:=List.mem_filterMap.mpr ⟨b,hb,by rw[e];rfl⟩
theorem wF{fp:List Ml}{h:MI}{p:Ml×Obj}(hp:p∈uh fp h):p.1∈fp/\h.get? p.1=some p.2:=by
 obtain⟨b,hb,e⟩:=List.mem_filterMap.mp hp
 cases q:h.get? b with
 | none=>rw[q] at e;cases e
 | some o =>
  rw[q] at e
  have e':(b,o)=p:=ME e
  subst e'
  exact⟨hb,q⟩
theorem Inv.pinned{pins:List (Ml×Obj)}{σ:St}{H:Hp}{s:Mi}{fp:List Ml}(I:Inv X pins σ H s)(hf:∀b∈fp,uB X pins H b)(ho:∀b∈fp,∃o,s.heap.get? b=some o/\∀v,o.data≠.cell v):Inv X (pins++uh fp s.heap) σ H s:=
 I.pins_of fun p hp=>(Nz.mp hp).elim (fun z=>I.pin p (MA _ z)) fun z=>by
  obtain⟨hb,e⟩:=wF z
  obtain⟨f0,f1,f2,_⟩:=hf p.1 hb
  obtain⟨o,e',d⟩:=ho p.1 hb
  rw[e] at e';cases e'
  exact⟨e,f0,f1,f2,d⟩
theorem Inv.unpinned{pins pl:List (Ml×Obj)}{σ:St}{H:Hp}{s:Mi}(I:Inv X (pins++pl) σ H s):Inv X pins σ H s:=I.pins_of fun p hp=>I.pin p (MA _ (Nr _ hp))
theorem jn{iter:MJ}{body:List ML}{wi:TI}{g:TG}{tb:TS}{pos:Pos}(hp:PassesOwn (model X.prog X.w) X.A X.env X.xe)(hc:X.calm=true)(hi:PI X tg iter wi)(hg:PG X tg g)(hb:PSs X body tb)
  (hs:∀x,foldedSetIterable iter X.env x=pure x:=by intro _;rfl):PS X (.For tg iter body [] pos) (K6 wi g tb):=by
 intro pins s σ H D I h
 refine wpAny_For (qW (hi pins s σ H _ I h) fun v s1 h1=>qW h1 fun itv s2 h2=>?_) hs
 obtain⟨it,fp,tn,J,H2,e,I2,T,st2,f2,W,⟨m0,w0⟩,turn⟩:=h2
 subst e
 have stat:∀{H':Hp},(∀b∈fp,H' b=none)->∀b∈fp,uB X pins H' b:=fun hn b hb=>⟨hn b hb,(f2 b hb).2⟩
 refine codeAny_forLoop_any (fun n s'=>∃i σ' H',Inv X pins σ' H' s'/\tn i s'.heap/\(∀b∈fp,H' b=none)/\W i n σ' H') ?_ m0 ⟨0,σ,H2,I2,st2,fun b hb=>(f2 b hb).1,w0⟩
 rintro n s3 ⟨i,σ3,H3,I3,st3,fr3,w3⟩
 rcases turn i n σ3 H3 w3 with ⟨stop,qn⟩ | ⟨go,N,hN,step⟩
 ·refine wpAny_passesOwn hp (qW (T.done X rfl rfl rfl hc i pins s3 σ3 H3 X.xe I3 (stat fr3) st3 stop) fun r s4 ⟨hr,I4⟩=>?_)
  subst hr
  exact wpAny_execs_nil ⟨σ3,H3,I4,qn⟩
 ·refine wpAny_passesOwn hp (qW (T.item X rfl rfl rfl hc i pins s3 σ3 H3 X.xe I3 (stat fr3) st3 go) fun r s4 ⟨u,hr,h4⟩=>?_)
  subst hr
  refine wpAny_passesOwn hp (qW h4 fun _ s5 ⟨x,H5,I5,r5,y5,st5,fr5⟩=>?_)
  have I5':=I5.pinned (stat fr5) (T.obj _ _ st5)
  refine wpAny_passesOwn hp (qW (hg _ s5 σ3 H5 x u _ I5' r5 (step x H5 y5)) fun _ s6 ⟨σ6,H6,I6,q6⟩=>?_)
  refine wpAny_passesOwn hp (qW (hb _ s6 σ6 H6 _ I6 q6) fun f s7 q7=>?_)
  have again:∀{σ7:St} {H7:Hp},Inv X (pins++uh fp s5.heap) σ7 H7 s7->N σ7 H7->∃m,m<n/\∃i σ' H',Inv X pins σ' H' s7/\tn i s7.heap/\(∀b∈fp,H' b=none)/\W i m σ' H':=fun {σ7 H7} I7 n7=>by
   obtain⟨m',hm,w7⟩:=hN σ7 H7 n7
   refine⟨m',hm,i+1,σ7,H7,I7.unpinned,T.keep _ _ _ st5 fun b hb o e=>(I7.pin (b,o) (MA _ (MA _ (bA hb e)))).1,fun b hb=>?_,w7⟩
   obtain⟨o,e,d⟩:=T.obj _ _ st5 b hb
   exact(I7.pin (b,o) (MA _ (MA _ (bA hb e)))).2.1
  cases f with
  | next=>obtain⟨σ7,H7,I7,n7⟩:=q7;exact again I7 n7
  | cont=>obtain⟨σ7,H7,I7,n7⟩:=q7;exact again I7 n7
  | brk=>obtain⟨σ7,H7,I7,q7⟩:=q7;exact⟨σ7,H7,I7.unpinned,q7⟩
  | ret v=>obtain⟨x7,σ7,H7,I7,r7,q7⟩:=q7;exact⟨x7,σ7,H7,I7.unpinned,r7,q7⟩
end
end L2
namespace L2
open PySem PySem.Spec PyProof.Rows
abbrev R2:=V->V->Hp->VK->Prop
def OpR(X:Cx)(f:Mg->Mg->Sem Mg)(r:R2):Prop:=
 ∀(pins:List (Ml×Obj)) (s:Mi) (σ:St) (H:Hp) (x y:V) (v u:Mg) (Q:VK),Inv X pins σ H s->RelV x v->RelV y u->r x y H Q ->
  wpAny (model X.prog X.w) X.A (f v u) (EP X pins σ Q) X.xe s
def UnR(X:Cx)(f:Mg->Sem Mg)(r:V->Hp->VK->Prop):Prop:=
 ∀(pins:List (Ml×Obj)) (s:Mi) (σ:St) (H:Hp) (x:V) (v:Mg) (Q:VK),Inv X pins σ H s->RelV x v->r x H Q ->
  wpAny (model X.prog X.w) X.A (f v) (EP X pins σ Q) X.xe s
def CallR(X:Cx)(f:Mg)(r:List V->Hp->VK->Prop):Prop:=
 ∀(pins:List (Ml×Obj)) (s:Mi) (σ:St) (H:Hp) (xs:List V) (us:List Mg) (Q:VK),Inv X pins σ H s->m8 xs us->r xs H Q ->
  wpAny (model X.prog X.w) X.A (call f us) (EP X pins σ Q) X.xe s
def Lg(X:Cx)(r:V->Hp->(Bool->Hp->Prop)->Prop):Prop:=
 ∀(pins:List (Ml×Obj)) (s:Mi) (σ:St) (H:Hp) (x:V) (v:Mg) (Q:Bool->Hp->Prop),Inv X pins σ H s->RelV x v->r x H Q ->
  wpAny (model X.prog X.w) X.A (truthy v) (TP X pins σ Q) X.xe s
def JW(r:R2)(ta tb:TE):TE:=fun σ H Q=>ta σ H fun x H1=>tb σ H1 fun y H2=>r x y H2 Q
def L9(r:V->Hp->VK->Prop)(ta:TE):TE:=fun σ H Q=>ta σ H fun x H1=>r x H1 Q
def rI(C:Int->Int->Prop)(g:Int->Int->V):R2:=fun x y H Q=>∃i j,x=.int i/\y=.int j/\C i j/\Q (g i j) H
def FA(g:Int->Int->V):R2:=fun x y H Q=>∃i j,x=.int i/\y=.int j/\Q (g i j) H
def rU(g:Int->V):V->Hp->VK->Prop:=fun x H Q=>∃i,x=.int i/\Q (g i) H
section
variable{X:Cx}{a b c:MJ}{ta tb tc:TE}{pos:Pos}
theorem G6(ha:PE X a ta)(hb:PE X b tb){pins:List (Ml×Obj)}{s:Mi}{σ:St}{H:Hp}{R:V->V->Hp->Prop}(I:Inv X pins σ H s)
  (h:ta σ H fun x H1=>tb σ H1 fun y H2=>R x y H2) {Q:Mg->Mi->Prop} {f:Mg->Mg->Sem Mg}
  (hf:∀v u s2 x y H2,Inv X pins σ H2 s2->RelV x v->RelV y u->R x y H2->wpAny (model X.prog X.w) X.A (f v u) Q X.xe s2) :
  wpAny (model X.prog X.w) X.A (eval a X.env) (fun v s₁=>wpAny (model X.prog X.w) X.A (eval b X.env) (fun u s₂=>wpAny (model X.prog X.w) X.A (f v u) Q X.xe s₂) X.xe s₁) X.xe s:=by
 refine qW (ha pins s σ H _ I h) fun v s1 ⟨x,H1,I1,r1,q1⟩=>?_
 refine qW (hb pins s1 σ H1 _ I1 q1) fun u s2 ⟨y,H2,I2,r2,q2⟩=>?_
 exact hf v u s2 x y H2 I2 r1 r2 q2
theorem qt{op:Operator}{r:R2}(ho:OpR X (binaryOp op) r)(ha:PE X a ta)(hb:PE X b tb):PE X (.BinOp a op b pos) (JW r ta tb):=by
 intro pins s σ H Q I h
 exact wpAny_BinOp (G6 ha hb I h fun v u s2 x y H2 I2 rx ry q=>ho pins s2 σ H2 x y v u Q I2 rx ry q)
theorem qC{op:UnaryOp}{r:V->Hp->VK->Prop}(ho:UnR X (unaryOp op) r)(ha:PE X a ta):PE X (.UnaryOp op a pos) (L9 r ta):=by
 intro pins s σ H Q I h
 exact UnaryOp_ (qW (ha pins s σ H _ I h) fun v s1 ⟨x,H1,I1,r1,q1⟩=>ho pins s1 σ H1 x v Q I1 r1 q1)
theorem Le{f:Mg->Mg->Sem Mg}{C:Int->Int->Prop}{g:Int->Int->Int}
  (rule:∀(i j:Int) (t u:Tok) (s:Mi) (Q:Mg->Mi->Prop) (E:Mg->Mi->Prop),C i j->Q (.int (g i j) s.toks) {s with toks:=s.toks+1}->wpAny (model X.prog X.w) X.A (f (.int i t) (.int j u)) Q E s) :
  OpR X f (rI C fun i j=>.int (g i j)):=by
 intro pins s σ H x y v u Q I rx ry h
 obtain⟨i,j,rfl,rfl,hc,q⟩:=h
 obtain⟨t,rfl⟩:=rx
 obtain⟨t',rfl⟩:=ry
 exact rule i j t t' s _ _ hc ⟨.int (g i j),H,I.tok _,⟨_,rfl⟩,q⟩
theorem IF{f:Mg->Mg->Sem Mg}{g:Int->Int->Int}
  (rule:∀(i j:Int) (t u:Tok) (s:Mi) (Q:Mg->Mi->Prop) (E:Mg->Mi->Prop),Q (.int (g i j) s.toks) {s with toks:=s.toks+1}->wpAny (model X.prog X.w) X.A (f (.int i t) (.int j u)) Q E s) :
  OpR X f (FA fun i j=>.int (g i j)):=by
 intro pins s σ H x y v u Q I rx ry h
 obtain⟨i,j,rfl,rfl,q⟩:=h
 obtain⟨t,rfl⟩:=rx
 obtain⟨t',rfl⟩:=ry
 exact rule i j t t' s _ _ ⟨.int (g i j),H,I.tok _,⟨_,rfl⟩,q⟩
theorem EY{f:Mg->Mg->Sem Mg}{g:Int->Int->Bool}
  (rule:∀(i j:Int) (t u:Tok) (s:Mi) (Q:Mg->Mi->Prop) (E:Mg->Mi->Prop),Q (.bool (g i j)) s->wpAny (model X.prog X.w) X.A (f (.int i t) (.int j u)) Q E s) :
  OpR X f (FA fun i j=>.bl (g i j)):=by
 intro pins s σ H x y v u Q I rx ry h
 obtain⟨i,j,rfl,rfl,q⟩:=h
 obtain⟨t,rfl⟩:=rx
 obtain⟨t',rfl⟩:=ry
 exact rule i j t t' s _ _ ⟨.bl (g i j),H,I,rfl,q⟩
def J_(i j:Int):Prop:=0<j/\j<1073741824
def GY(i j:Int):Prop:=(-(2 ^ 64)<i/\i<2 ^ 64)\/(-(2 ^ 64)<j/\j<2 ^ 64)
theorem GY.ok{i j:Int}(h:GY i j):IntMulOk i j:=by
 rcases h with ⟨h1,h2⟩ | ⟨h1,h2⟩
 ·exact .of_left (intBits_le_64 h1 h2)
 ·exact .of_right (intBits_le_64 h1 h2)
theorem GP:OpR X (binaryOp .Add) (FA fun i j=>.int (i+j)):=IF fun _ _ _ _ _ _ _ q=>add_int q
theorem HJ:OpR X (binaryOp .Sub) (FA fun i j=>.int (i - j)):=IF fun _ _ _ _ _ _ _ q=>sub_int q
theorem GC:OpR X (binaryOp .Mult) (rI GY fun i j=>.int (i*j)):=Le fun _ _ _ _ _ _ _ hc q=>mul_int q hc.ok
theorem FV:OpR X (binaryOp .FloorDiv) (rI J_ fun i j=>.int (i / j)):=Le fun i j _ _ _ _ _ hc q=>by
 have h1:(0:Int)<j:=hc.1
 have h2:j<1073741824:=hc.2
 exact floordiv_int (by omega) (by rw[Int.fdiv_eq_ediv_of_nonneg i (by omega)];exact q) (.inl (PyProof.noPylong_small (by omega)))
theorem Hj:OpR X (binaryOp .Mod) (rI (fun _ j=>0<j) fun i j=>.int (i%j)):=Le fun i j _ _ _ _ _ hc q=>by
 have h1:(0:Int)<j:=hc
 exact mod_int' (by omega) (by rw[Int.fmod_eq_emod_of_nonneg i (by omega)];exact q)
theorem LX{f:Mg->Sem Mg}{g:Int->Int}
  (rule:∀(i:Int) (t:Tok) (s:Mi) (Q:Mg->Mi->Prop) (E:Mg->Mi->Prop),Q (.int (g i) s.toks) {s with toks:=s.toks+1}->wpAny (model X.prog X.w) X.A (f (.int i t)) Q E s) :
  UnR X f (rU fun i=>.int (g i)):=by
 intro pins s σ H x v Q I rx h
 obtain⟨i,rfl,q⟩:=h
 obtain⟨t,rfl⟩:=rx
 exact rule i t s _ _ ⟨.int (g i),H,I.tok _,⟨_,rfl⟩,q⟩
theorem He:UnR X (unaryOp .USub) (rU fun i=>.int (-i)):=LX fun _ _ _ _ _ q=>neg_int q
end
noncomputable def E7:V->V->Bool
 | .non,.non=>true | .non,.int _=>true | .int _,.non=>true | .non,.bl _=>true | .bl _,.non=>true | .non,.str _=>true | .str _,.non=>true
 | .int _,.int _=>true | .bl _,.bl _=>true | .str _,.str _=>true | .byt _,.byt _=>true
 | .int _,.str _=>true | .str _,.int _=>true | .bl _,.str _=>true | .str _,.bl _=>true
 | _,_=>false
def LK:R2:=fun x y H Q=>E7 x y=true/\Q (.bl (decide (x=y))) H
def L4:R2:=fun x y H Q=>E7 x y=true/\Q (.bl (!decide (x=y))) H
theorem xo{i j:Int}:decide (V.int i=V.int j)=(i==j):=by
 rw[Bool.eq_iff_iff]
 simp
theorem zu{i j:Bool}:decide (V.bl i=V.bl j)=(i==j):=by
 rw[Bool.eq_iff_iff]
 simp
theorem xq{i j:Str}:decide (V.str i=V.str j)=(i==j):=by
 rw[Bool.eq_iff_iff]
 simp
theorem B3{i j:Array UInt8}:decide (V.byt i=V.byt j)=(i.toList==j.toList):=by
 rw[Bool.eq_iff_iff]
 cases i
 cases j
 simp
section
variable{X:Cx}{a b c:MJ}{ta tb tc:TE}{pos:Pos}
theorem p9{pins:List (Ml×Obj)}{σ:St}{H:Hp}{s:Mi}{Q:VK}{k k':Bool}(I:Inv X pins σ H s)(q:Q (.bl k) H)(e:k=k'):EP X pins σ Q (.bool k') s:=by
 subst e
 exact⟨.bl k,H,I,rfl,q⟩
theorem Ii:OpR X (compareOp .Eq) LK:=by
 intro pins s σ H x y v u Q I rx ry h
 obtain⟨hs,q⟩:=h
 cases x with
 | non =>
  cases rx
  cases y with
  | non=>cases ry;exact PySem.EqNone.eq_none_none (p9 I q (by simp))
  | bl j=>cases ry;exact PySem.EqNone.eq_none_bool (p9 I q (by simp))
  | int j=>obtain⟨t',rfl⟩:=ry;exact PySem.EqNone.eq_none_int (p9 I q (by simp))
  | str j=>obtain⟨t',rfl⟩:=ry;exact PySem.EqNone.eq_none_str (p9 I q (by simp))
  | _=>exact MY (show false=true from hs) Mt
 | bl i =>
  cases rx
  cases y with
  | non=>cases ry;exact PySem.EqNone.eq_bool_none (p9 I q (by simp))
  | bl j=>cases ry;exact eq_bool (p9 I q zu)
  | str j=>obtain⟨t',rfl⟩:=ry;exact PySem.EqMixed.eq_bool_str (p9 I q (by simp))
  | _=>exact MY (show false=true from hs) Mt
 | int i =>
  obtain⟨t,rfl⟩:=rx
  cases y with
  | non=>cases ry;exact PySem.EqNone.eq_int_none (p9 I q (by simp))
  | int j=>obtain⟨t',rfl⟩:=ry;exact eq_int (p9 I q xo)
  | str j=>obtain⟨t',rfl⟩:=ry;exact PySem.EqMixed.eq_int_str (p9 I q (by simp))
  | _=>exact MY (show false=true from hs) Mt
 | str i =>
  obtain⟨t,rfl⟩:=rx
  cases y with
  | non=>cases ry;exact PySem.EqNone.eq_str_none (p9 I q (by simp))
  | bl j=>cases ry;exact PySem.EqMixed.eq_str_bool (p9 I q (by simp))
  | int j=>obtain⟨t',rfl⟩:=ry;exact PySem.EqMixed.eq_str_int (p9 I q (by simp))
  | str j=>obtain⟨t',rfl⟩:=ry;exact eq_str (p9 I q xq)
  | _=>exact MY (show false=true from hs) Mt
 | byt i =>
  obtain⟨t,rfl⟩:=rx
  cases y with
  | byt j=>obtain⟨t',rfl⟩:=ry;exact PySem.W.eq_bytes (p9 I q B3)
  | _=>exact MY (show false=true from hs) Mt
 | _=>cases y<;>exact MY (show false=true from hs) Mt
theorem IY:OpR X (compareOp .NotEq) L4:=by
 intro pins s σ H x y v u Q I rx ry h
 obtain⟨hs,q⟩:=h
 cases x with
 | non =>
  cases rx
  cases y with
  | non=>cases ry;exact PySem.EqNone.ne_none_none (p9 I q (by simp))
  | bl j=>cases ry;exact PySem.EqNone.ne_none_bool (p9 I q (by simp))
  | int j=>obtain⟨t',rfl⟩:=ry;exact PySem.EqNone.ne_none_int (p9 I q (by simp))
  | str j=>obtain⟨t',rfl⟩:=ry;exact PySem.EqNone.ne_none_str (p9 I q (by simp))
  | _=>exact MY (show false=true from hs) Mt
 | bl i =>
  cases rx
  cases y with
  | non=>cases ry;exact PySem.EqNone.ne_bool_none (p9 I q (by simp))
  | bl j=>cases ry;exact ne_bool (p9 I q (congrArg not zu))
  | str j=>obtain⟨t',rfl⟩:=ry;exact PySem.EqMixed.ne_bool_str (p9 I q (by simp))
  | _=>exact MY (show false=true from hs) Mt
 | int i =>
  obtain⟨t,rfl⟩:=rx
  cases y with
  | non=>cases ry;exact PySem.EqNone.ne_int_none (p9 I q (by simp))
  | int j=>obtain⟨t',rfl⟩:=ry;exact ne_int (p9 I q (congrArg not xo))
  | str j=>obtain⟨t',rfl⟩:=ry;exact PySem.EqMixed.ne_int_str (p9 I q (by simp))
  | _=>exact MY (show false=true from hs) Mt
 | str i =>
  obtain⟨t,rfl⟩:=rx
  cases y with
  | non=>cases ry;exact PySem.EqNone.ne_str_none (p9 I q (by simp))
  | bl j=>cases ry;exact PySem.EqMixed.ne_str_bool (p9 I q (by simp))
  | int j=>obtain⟨t',rfl⟩:=ry;exact PySem.EqMixed.ne_str_int (p9 I q (by simp))
  | str j=>obtain⟨t',rfl⟩:=ry;exact ne_str (p9 I q (congrArg not xq))
  | _=>exact MY (show false=true from hs) Mt
 | byt i =>
  obtain⟨t,rfl⟩:=rx
  cases y with
  | byt j=>obtain⟨t',rfl⟩:=ry;exact PySem.W.ne_bytes (p9 I q (congrArg not B3))
  | _=>exact MY (show false=true from hs) Mt
 | _=>cases y<;>exact MY (show false=true from hs) Mt
theorem Jx:OpR X (compareOp .Lt) (FA fun i j=>.bl (decide (i<j))):=EY fun _ _ _ _ _ _ _ q=>lt_int q
theorem Je:OpR X (compareOp .LtE) (FA fun i j=>.bl (decide (i<=j))):=EY fun _ _ _ _ _ _ _ q=>le_int q
theorem IW:OpR X (compareOp .Gt) (FA fun i j=>.bl (decide (j<i))):=EY fun _ _ _ _ _ _ _ q=>gt_int q
theorem IU:OpR X (compareOp .GtE) (FA fun i j=>.bl (decide (j<=i))):=EY fun _ _ _ _ _ _ _ q=>ge_int q
theorem HA:OpR X (compareOp .Is) (fun x y H Q=>y=.non/\Q (.bl (decide (x=.non))) H):=by
 intro pins s σ H x y v u Q I rx ry h
 obtain⟨rfl,q⟩:=h
 cases ry
 refine is_none_gen (p9 I q ?_)
 cases x<;>first
  | (cases rx;rfl)
  | (obtain⟨t,rfl⟩:=rx;rfl)
theorem Fc:OpR X (compareOp .IsNot) (fun x y H Q=>y=.non/\Q (.bl (!decide (x=.non))) H):=by
 intro pins s σ H x y v u Q I rx ry h
 obtain⟨rfl,q⟩:=h
 cases ry
 refine isnot_none_gen (p9 I q ?_)
 cases x<;>first
  | (cases rx;rfl)
  | (obtain⟨t,rfl⟩:=rx;rfl)
theorem OpR.or{f:Mg->Mg->Sem Mg}{r r':R2}(h:OpR X f r)(h':OpR X f r'):OpR X f (fun x y H Q=>r x y H Q\/r' x y H Q):=by
 intro pins s σ H x y v u Q I rx ry q
 rcases q with q | q
 ·exact h pins s σ H x y v u Q I rx ry q
 ·exact h' pins s σ H x y v u Q I rx ry q
theorem Bc(b:MJ){op:CmpOp}(h:op≠.In:=by decide)(h2:op≠.NotIn:=by decide):behindInMarks op b=false:=by
 have e1:(op==CmpOp.In)=false:=by cases op<;>first | rfl | exact MY rfl h
 have e2:(op==CmpOp.NotIn)=false:=by cases op<;>first | rfl | exact MY rfl h2
 cases b<;>simp[behindInMarks,e1,e2]
theorem oW{op:CmpOp}{r:R2}(ho:OpR X (compareOp op) r)(ha:PE X a ta)(hb:PE X b tb)(hm:behindInMarks op b=false):PE X (.Compare a [op] [b] pos) (JW r ta tb):=by
 intro pins s σ H Q I h
 exact wpAny_Compare1 (G6 ha hb I h fun v u s2 x y H2 I2 rx ry q=>ho pins s2 σ H2 x y v u Q I2 rx ry q) hm
def Jn(t:TE):TT:=fun σ H Q=>t σ H fun x H'=>∃k,x=.bl k/\Q k H'
theorem lQ{op:CmpOp}{r:R2}(ho:OpR X (compareOp op) r)(ha:PE X a ta)(hb:PE X b tb)(hm:behindInMarks op b=false):PT X (.Compare a [op] [b] pos) (Jn (JW r ta tb)):=by
 intro pins s σ H Q I h
 refine wpAny_isTrue_Compare1 (qW (ha pins s σ H _ I h) fun v s1 ⟨x,H1,I1,r1,q1⟩=>qW (hb pins s1 σ H1 _ I1 q1) fun u s2 ⟨y,H2,I2,r2,q2⟩ =>
  qW (ho pins s2 σ H2 x y v u _ I2 r1 r2 q2) fun c s3 ⟨z,H3,I3,r3,k,e,q3⟩=>?_) hm
 subst e
 cases r3
 exact wpAny_truthy_bool ⟨H3,I3,q3⟩
def Hk(K:Mj)(x:V)(H:Hp)(k:Bool):Prop:=
 match x with
 | .non=>k=false
 | .bl b=>k=b
 | .int i=>k=(i != 0)
 | .str y=>y.length<=sizeLine/\k=((y.length:Int) != 0)
 | .byt y=>y.size<=sizeLine/\k=((y.size:Int) != 0)
 | .ref p=>(∃xs,ua K H p xs/\k=!xs.isEmpty)\/(∃xs,uT K H p xs/\k=!xs.isEmpty)\/∃kvs,H p=some (.dK kvs)/\k=!kvs.isEmpty
 | _=>False
theorem A2{κ:Type}{kvs:List (κ×V)}{vs:List (κ×Mg)}(r:KV kvs vs):(!vs.isEmpty)=!kvs.isEmpty:=by
 cases r<;>rfl
theorem xU{xs:List V}{its:List Mg}(r:m8 xs its):(!its.toArray.isEmpty)=!xs.isEmpty:=by
 cases r<;>simp
theorem xO:(sizeLine:Nat)<2 ^ 63:=by rw[sizeLine_eq];decide
theorem Hw:Lg X (fun x H Q=>∃k,Hk X.K x H k/\Q k H):=by
 intro pins s σ H x v Q I rx h
 obtain⟨k,e,q⟩:=h
 have hl:=xO
 have hs:sizeLine=16777216:=sizeLine_eq
 cases x with
 | non =>
  cases rx
  have e':k=false:=e
  subst e'
  exact truthy_none ⟨H,I,q⟩
 | bl b =>
  cases rx
  have e':k=b:=e
  subst e'
  exact wpAny_truthy_bool ⟨H,I,q⟩
 | int i =>
  obtain⟨t,rfl⟩:=rx
  have e':k=(i != 0):=e
  subst e'
  exact PySem.P.truthy_int ⟨H,I,q⟩
 | str y =>
  obtain⟨t,rfl⟩:=rx
  obtain⟨hy,e'⟩:y.length<=sizeLine/\k=((y.length:Int) != 0):=e
  subst e'
  exact PySem.P.truthy_str (by omega) ⟨H,I.tok _,q⟩
 | byt y =>
  obtain⟨t,rfl⟩:=rx
  obtain⟨hy,e'⟩:y.size<=sizeLine/\k=((y.size:Int) != 0):=e
  subst e'
  exact PySem.W.truthy_bytes (by omega) ⟨H,I.tok _,q⟩
 | ref p =>
  cases rx
  have e':(∃xs,ua X.K H p xs/\k=!xs.isEmpty)\/(∃xs,uT X.K H p xs/\k=!xs.isEmpty)\/∃kvs,H p=some (.dK kvs)/\k=!kvs.isEmpty:=e
  rcases e' with ⟨xs,hx,e'⟩ | ⟨xs,hx,e'⟩ | ⟨kvs,hx,e'⟩
  ·subst e'
   obtain⟨its,r,pl,hz⟩:=I.list hx
   have hlen:=r.length
   exact wpAny_truthy_list pl.isList (by simp only[Mz];omega) ⟨H,I.tok _,by rw[xU r];exact q⟩
  ·subst e'
   obtain⟨its,r,pl,hz⟩:=I.tuple hx
   have hlen:=r.length
   exact truthy_tuple pl (by simp only[Mz];omega) ⟨H,I.tok _,by rw[xU r];exact q⟩
  ·subst e'
   obtain⟨hz,hS,vs,r,m⟩:kvs.length<=sizeLine/\(p==sysModules)=false/\∃vs,KV kvs vs/\s.heap.DictOf (xB X.prog X.w) p vs:=I.hok p _ hx
   have hlen:kvs.length=vs.length:=Paired.length r
   exact wpAny_truthy_dict hS m (by omega) ⟨H,I.tok _,by rw[A2 r];exact q⟩
 | _=>exact(show False from e).elim
theorem nH(ha:PE X a ta)(he:∀whole,isTrue a X.env whole=(do let v <- whole;standAt a.pos;holding [v] (truthy v))) :
  PT X a (fun σ H Q=>ta σ H fun x H'=>∃k,Hk X.K x H' k/\Q k H'):=by
 intro pins s σ H Q I h
 exact isTrue_plain (qW (ha pins s σ H _ I h) fun v s1 ⟨x,H1,I1,r1,q1⟩=>Hw pins s1 σ H1 x v Q I1 r1 q1) (he _)
theorem AQ:OpR X (binaryOp .Add) (fun x y H Q=>∃i j,x=.str i/\y=.str j/\i.length+j.length<=sizeLine/\Q (.str (i++j)) H):=by
 intro pins s σ H x y v u Q I rx ry h
 obtain⟨i,j,rfl,rfl,hz,q⟩:=h
 obtain⟨t,rfl⟩:=rx
 obtain⟨t',rfl⟩:=ry
 exact add_str (fun t' tk=>⟨.str (i++j),H,I.tok _,⟨_,rfl⟩,q⟩) hz
theorem vals1{x:V}{us:List Mg}(r:m8 [x] us):∃u,us=[u]/\RelV x u:=by
 cases r with
 | cons r1 r2=>cases r2;exact⟨_,rfl,r1⟩
theorem vals2{x y:V}{us:List Mg}(r:m8 [x,y] us):∃u w',us=[u,w']/\RelV x u/\RelV y w':=by
 cases r with
 | cons r1 r2 =>
  cases r2 with
  | cons r3 r4=>cases r4;exact⟨_,_,rfl,r1,r3⟩
theorem mF(hc:X.calm=true):CallR X (.builtin "max") (fun xs H Q=>∃i j,xs=[.int i,.int j]/\Q (.int (if j > i then j else i)) H):=by
 intro pins s σ H xs us Q I r h
 obtain⟨i,j,rfl,q⟩:=h
 obtain⟨u,w',rfl,⟨t,rfl⟩,⟨t',rfl⟩⟩:=vals2 r
 refine max_two_ints (I.ok.hd hc) fun h' tk k=>⟨_,H,I.kept k,?_,q⟩
 by_cases hj:j > i
 ·rw[Mo hj,Mo hj];exact⟨_,rfl⟩
 ·rw[Mx hj,Mx hj];exact⟨_,rfl⟩
end
end L2
namespace L2
open PySem PySem.Spec PyProof.Rows
structure Bf (h:MI) (x dx C:Ml) (mA:Str->Me Mg):Prop where
 obj:h.get? x=some (PySem.W.instObj C dx)
 ns:h.Ns1 dx mA
 ne:dx≠x
theorem CW{h:MI}{dx:Ml}{mA:Str->Me Mg}(n:h.Ns1 dx mA):∃od,h.get? dx=some od/\∀name,PySem.W.lookIn name od=some (mA name):=by
 obtain⟨o,es,ep,ho,hd,hk,_,hm⟩:=n
 refine⟨o,ho,fun name=>?_⟩
 have e:=hm name
 unfold nsFind findBy at e
 rw[<- Array.find?_toList] at e
 unfold PySem.W.lookIn
 rw[hd]
 dsimp only
 split
 ·rename_i y q
  rw[q] at e
  exact congrArg some e
 ·rename_i q
  rw[q] at e
  have a:es.toList.any (·.refKey)=false:=by
   rw[List.any_eq_false]
   intro y hy
   obtain⟨z,t,hkey⟩:=hk y (Array.mem_toList_iff.mp hy)
   simp[DictEntry.refKey,hkey]
  have a':¬ es.toList.any (·.refKey)=true:=by rw[a];exact Mt
  rw[Mx a']
  exact congrArg some e
theorem Bf.look{h:MI}{x dx C:Ml}{mA:Str->Me Mg}(I:Bf h x dx C mA):∃od,PySem.W.InstAt h x (PySem.W.instObj C dx) C (some od)/\∀name,PySem.W.lookIn name od=some (mA name):=
 let ⟨od,ho,hl⟩:=CW I.ns
 ⟨od,⟨I.obj,rfl,rfl,ho⟩,hl⟩
section
variable{prog:Mv}{w:MH}{A:MQ}{E:Mg->Mi->Prop}{s:Mi}{K:Mj}{x dx C f:Ml}{mA:Str->Me Mg}{name:Str}{v:Mg}
theorem ph{expr:Bool}{Q:Mg->Mi->Prop}(X:K.In s.heap)(I:Bf s.heap x dx C mA)(hg:PySem.W.plainGet K C name=true)(hh:PySem.W.hasDictIn K C=true)
  (ha:PySem.W.findIn K (.ref C) name=some none) (hv:mA name=some v) (hv':PySem.W.handedIn v=true) (h:Q v {s with toks:=s.toks+1}) :
  wpAny (model prog w) A (getAttr (.ref x) name expr) Q E s:=by
 obtain⟨od,J,hl⟩:=I.look
 exact PySem.W.get_value X J (PySem.W.plainGet_of hg).1 (PySem.W.findObj_own hh ha rfl (by rw[hl,hv])) hv' h
theorem nG{pl:Sem Bool}{Q:Mg×List Mg->Mi->Prop}(X:K.In s.heap)(I:Bf s.heap x dx C mA)(hg:PySem.W.plainGet K C name=true)
  (hf:PySem.W.findIn K (.ref C) name=some (some (.ref f))) (ht:PySem.W.isFn K (.ref f)=true) (hv:mA name=none) (h:Q (.ref f,[.ref x]) s) :
  wpAny (model prog w) A (getMethod (.ref x) name pl) Q E s:=by
 obtain⟨od,J,hl⟩:=I.look
 exact PySem.W.method_fn X J (PySem.W.plainGet_of hg).1 (PySem.W.plainGet_of hg).2 hf (NC.mp ht) (by show(PySem.W.lookIn name od).map (·.isSome)=some false;rw[hl,hv];rfl) h
theorem EU{ns:List Str}{Q:Unit->Mi->Prop}(X:K.In s.heap)(I:Bf s.heap x dx C mA)
  (hs:PySem.W.findIn K (.ref C) "__setattr__" = some (some (.builtin "object.__setattr__"))) (hp:PySem.W.plainOver K C=true) (ht:PySem.W.takerIn K C name=some none) (hh:PySem.W.hasDictIn K C=true)
  (hw:PySem.Within mA ns) (hsz:ns.length<=sizeLine)
  (h:∀h',Bf h' x dx C (fun y=>if y=name then some v else mA y)->Heap.SameBut dx s.heap h'->Q () {s with heap:=h',toks:=s.toks+2}) :
  wpAny (model prog w) A (setAttr (.ref x) name v) Q E s:=by
 obtain⟨od,J,hl⟩:=I.look
 refine PySem.W.set_plain X J hs (PySem.W.osa_open (s:={s with toks:=s.toks+1}) (r:=none) X J hp ht fun b=>?_)
 obtain⟨cd,hc,hd'⟩:=PySem.W.any_some hh
 have hx:s.heap.get? x=some ⟨.ref C,some dx,.plain,#[]⟩:=I.obj
 refine Mf (Mm (Mf (Mf (wpAny_loadPart hx (Mf (PySem.W.Looks.here (s:={s with toks:=s.toks+1}) (PySem.W.looks_clsIn X hc) ?_))))))
 rw[hd']
 refine Mm (a:=some dx) (Mf (Mm (Mf ?_)))
 refine wpAny_nsSet1 (s:={s with toks:=s.toks+1}) I.ns fun h' hn2 hs2=>?_
 obtain⟨oD,esD,epD,hoD,hdD,hcD⟩:=hn2.count (PySem.Within.cons name v hw)
 refine Mf (wpAny_lookBehind hoD (by rw[hdD];exact pastItsLine_dict (MN hcD (by rw[Nd];omega))) ?_)
 exact Mm (h _ ⟨(hs2.2 _ (Ne.symm I.ne)).trans I.obj,hn2,I.ne⟩ hs2)
theorem Ed {R:Result->Mi->Prop} {vs:List Mg} {kw:List (Str×Mg)} (X:K.In s.heap) (hm:PySem.W.makesIn K C=true)
    (hi:PySem.W.findIn K (.ref C) "__init__" = some (some (.ref f))) (hf:PySem.W.typeIn K (.ref f)=some (.type "function"))
    (h:codeAny (model prog w) (A.under (.builtin "type.__call__" ⟨.ref C::vs,kw⟩)) (.call (.ref f) ⟨.ref (s.heap.objs.size+1)::vs,kw⟩) (PySem.W.InitBack (s.heap.objs.size+1) R)
      {s with heap:=(s.heap.push PySem.W.emptyDict).push (PySem.W.instObj C s.heap.objs.size)}) :
    codeAny (model prog w) A (.call (.ref C) ⟨vs,kw⟩) R s:=by
  obtain⟨hh,g,d,t,os⟩:=s
  exact PySem.W.make_core (PySem.W.makes_of X hm) (PySem.W.looks_findIn X hi) (fun self=>PySem.W.bind_fn X self hf) (.inl rfl) h
end
noncomputable def tT(f:Str)(v:V):List (Str×V)->List (Str×V)
 | []=>[(f,v)]
 | (g,x)::r=>if g=f then (g,v)::r else (g,x)::tT f v r
theorem xf(f g:Str)(v:V):∀fs:List (Str×V),(tT f v fs).lookup g=if g=f then some v else fs.lookup g
 | []=>by
  show List.lookup g [(f,v)]=_
  by_cases h:g=f
  ·have hb:(g==f)=true:=NC.mpr h
   simp only[List.lookup,hb,Mo h]
  ·have hb:(g==f)=false:=M8.mpr h
   simp only[List.lookup,hb,Mx h]
 | (k,x)::r=>by
  have ih:=xf f g v r
  rw[show tT f v ((k,x)::r)=(if k=f then (k,v)::r else (k,x)::tT f v r) from rfl]
  by_cases hk:k=f
  ·rw[Mo hk]
   by_cases h:g=k
   ·have hb:(g==k)=true:=NC.mpr h
    simp only[List.lookup,hb,Mo (h.trans hk)]
   ·have hb:(g==k)=false:=M8.mpr h
    simp only[List.lookup,hb,Mx (fun e:g=f=>h (e.trans hk.symm))]
  ·rw[Mx hk]
   by_cases h:g=k
   ·have hb:(g==k)=true:=NC.mpr h
    simp only[List.lookup,hb,Mx (fun e:g=f=>hk (h.symm.trans e))]
   ·have hb:(g==k)=false:=M8.mpr h
    simp only[List.lookup,hb]
    exact ih
theorem wB(f:Str)(v:V):∀fs:List (Str×V),f∈(tT f v fs).map (·.1)/\∀g,g∈fs.map (·.1)->g∈(tT f v fs).map (·.1)
 | []=>⟨by simp[tT],fun g h=>by simp at h⟩
 | (k,x)::r=>by
  obtain⟨i1,i2⟩:=wB f v r
  rw[show tT f v ((k,x)::r)=(if k=f then (k,v)::r else (k,x)::tT f v r) from rfl]
  by_cases hk:k=f
  ·rw[Mo hk]
   subst hk
   exact⟨by simp,fun g h=>by simpa using h⟩
  ·rw[Mx hk]
   refine⟨?_,fun g h=>?_⟩
   ·rw[M9]
    exact MV _ i1
   ·rw[M9] at h ⊢
    rcases Mu.mp h with e | e
    ·exact Mu.mpr (.inl e)
    ·exact MV _ (i2 g e)
theorem wX(f:Str)(v:V):∀fs:List (Str×V),(tT f v fs).length<=fs.length+1
 | []=>by simp[tT]
 | (k,x)::r=>by
  have ih:=wX f v r
  rw[show tT f v ((k,x)::r)=(if k=f then (k,v)::r else (k,x)::tT f v r) from rfl]
  by_cases hk:k=f
  ·rw[Mo hk,Nd,Nd];omega
  ·rw[Mx hk,Nd,Nd];omega
theorem vE.some_of{v:V}{o:Me Mg}(r:vE (some v) o):∃u,o=some u/\RelV v u:=by
 cases o with
 | none=>exact(show False from r).elim
 | some u=>exact⟨u,rfl,r⟩
theorem vE.none_of{o:Me Mg}(r:vE none o):o=none:=by
 cases o with
 | none=>rfl
 | some u=>exact(show False from r).elim
theorem C3{v:V}{u:Mg}(r:RelV v u):PySem.W.handedIn u=true:=by
 cases v with
 | non=>cases (show u=Value.none from r);rfl
 | bl b=>cases (show u=Value.bool b from r);rfl
 | int i=>obtain⟨t,e⟩:=(show ∃t,u=Value.int i t from r);cases e;rfl
 | str x=>obtain⟨t,e⟩:=(show ∃t,u=Value.str x t from r);cases e;rfl
 | byt b=>obtain⟨t,e⟩:=(show ∃t,u=Value.bytes b t from r);cases e;rfl
 | flt b=>obtain⟨t,e⟩:=(show ∃t,u=Value.float b t from r);cases e;rfl
 | ref a=>cases (show u=Value.ref a from r);rfl
 | ty n=>cases (show u=Value.type n from r);rfl
section
variable{P:Mv}{w:MH}{H H':Hp}{h h':MI}{a C dx:Ml}{fs fs':List (Str×V)}
theorem zo(hok:xl P w H h)(e:H a=some (.ins C dx fs)):∃mA,Bf h a dx C mA/\(∀f,vE (fs.lookup f) (mA f))/\PySem.Within mA (fs.map (·.1))/\fs.length<=1000/\H dx=some (.own a):=by
 obtain⟨d,z,ne,ob,mA,n,r,q⟩:=(show tY P w H h a (.ins C dx fs) from hok a _ e)
 exact⟨mA,⟨ob,n,ne⟩,r,q,z,d⟩
end
structure wA (K:Mj) (C:Ml):Prop where
 pg:PySem.W.plainGet K C Str.empty=true
 hd:PySem.W.hasDictIn K C=true
 po:PySem.W.plainOver K C=true
 sa:PySem.W.findIn K (.ref C) "__setattr__" = some (some (.builtin "object.__setattr__"))
theorem wA.get{K:Mj}{C:Ml}(c:wA K C)(f:Str):PySem.W.plainGet K C f=true:=c.pg
def rA(K:Mj)(C:Ml)(f:Str):Prop:=PySem.W.findIn K (.ref C) f=some none
theorem rA.taker{K:Mj}{C:Ml}{f:Str}(n:rA K C f):PySem.W.takerIn K C f=some none:=by
 unfold PySem.W.takerIn
 rw[show PySem.W.findIn K (.ref C) f=some none from n]
 rfl
structure sj (K:Mj) (C:Ml) (f:Str) (v:V) (u:Mg):Prop where
 at_:PySem.W.findIn K (.ref C) f=some (some u)
 rel:RelV v u
 get:PySem.W.specialIn K u "__get__" = some none
 cp:PySem.W.copiedNames.contains f=false
structure zX (K:Mj) (C:Ml) (m:Str) (f:Ml):Prop where
 at_:PySem.W.findIn K (.ref C) m=some (some (.ref f))
 fn:PySem.W.isFn K (.ref f)=true
 kp:PySem.W.keepIn K (.ref f)=true
section
variable{X:Cx}{pins:List (Ml×Obj)}{σ:St}{H:Hp}{s:Mi}{a C dx:Ml}{fs:List (Str×V)}{f:Str}{v:V}{A:MQ}{E:Mg->Mi->Prop}
theorem A_{b:Bool}{Q:Mg->Mi->Prop}(I:Inv X pins σ H s)(e:H a=some (.ins C dx fs))(c:wA X.K C)(n:rA X.K C f)(l:fs.lookup f=some v)
  (h:∀u s',Inv X pins σ H s'->RelV v u->Q u s'):wpAny (model X.prog X.w) A (getAttr (.ref a) f b) Q E s:=by
 obtain⟨mA,O,r,_,_,_⟩:=zo I.hok e
 obtain⟨u,hu,ru⟩:=vE.some_of (v:=v) (o:=mA f) (by rw[<- l];exact r f)
 exact ph I.kIn O (c.get f) c.hd n hu (C3 ru) (h u _ (I.tok _) ru)
theorem vV{m:Str}{g:Ml}{pl:Sem Bool}{Q:Mg×List Mg->Mi->Prop}(I:Inv X pins σ H s)(e:H a=some (.ins C dx fs))(c:wA X.K C)(k:zX X.K C m g)(l:fs.lookup m=none)
  (h:Q (.ref g,[.ref a]) s):wpAny (model X.prog X.w) A (getMethod (.ref a) m pl) Q E s:=by
 obtain⟨mA,O,r,_,_,_⟩:=zo I.hok e
 have hn:mA m=none:=vE.none_of (by rw[<- l];exact r m)
 exact nG I.kIn O (c.get m) k.at_ k.fn hn h
theorem Bp{y:V}{u:Mg}{Q:Unit->Mi->Prop}(I:Inv X pins σ H s)(e:H a=some (.ins C dx fs))(c:wA X.K C)(n:rA X.K C f)(hl:fs.length<1000)(ry:RelV y u)
  (h:∀s',Inv X pins σ (upd H a (.ins C dx (tT f y fs))) s'->Q () s'):wpAny (model X.prog X.w) A (setAttr (.ref a) f u) Q E s:=by
 obtain⟨mA,O,r,wi,_,ho⟩:=zo I.hok e
 have hz:(fs.map (·.1)).length<=sizeLine:=by rw[Ms,sizeLine_eq];omega
 refine EU I.kIn O c.sa c.po n.taker c.hd wi hz fun h' O' sb=>h _ ?_
 have hd:∃o,h'.get? dx=some o:=let ⟨o,_,_,e',_⟩:=O'.ns;⟨o,e'⟩
 refine I.write (x:=a) (e:=dx) (by rw[e];exact True.intro) (.inr ho) (fun b q hb z=>(sb.2 b hb).trans z) hd ?_
 refine⟨by rw[ar O.ne];exact ho,?_,O.ne,O'.obj,_,O'.ns,fun g=>?_,fun g hg=>?_⟩
 ·have:=wX f y fs;omega
 ·show vE ((tT f y fs).lookup g) (if g=f then some u else mA g)
  rw[xf]
  by_cases q:g=f
  ·rw[Mo q,Mo q];exact ry
  ·rw[Mx q,Mx q];exact r g
 ·by_cases q:g=f
  ·rw[q];exact(wB f y fs).1
  ·refine(wB f y fs).2 g (wi g fun z=>hg ?_)
   show(if g=f then some u else mA g)=none
   rw[Mx q];exact z
theorem Inv.made(I:Inv X pins σ H s):Inv X pins σ (upd (upd H s.heap.objs.size (.own (s.heap.objs.size+1))) (s.heap.objs.size+1) (.ins C s.heap.objs.size []))
  {s with heap:=(s.heap.push PySem.W.emptyDict).push (PySem.W.instObj C s.heap.objs.size)}:=by
 have e1:(s.heap.push PySem.W.emptyDict).get? s.heap.objs.size=some PySem.W.emptyDict:=Mq s.heap rfl
 have e2:((s.heap.push PySem.W.emptyDict).push (PySem.W.instObj C s.heap.objs.size)).get? (s.heap.objs.size+1)=some (PySem.W.instObj C s.heap.objs.size):=by
  have:=Mq (s.heap.push PySem.W.emptyDict) (o:=PySem.W.instObj C s.heap.objs.size) rfl
  rwa [Heap.size_push] at this
 have e3:(s.heap.push PySem.W.emptyDict).Ns s.heap.objs.size (fun _=>none):=⟨PySem.W.emptyDict,#[],_,e1,rfl,(fun e he=>MY he (by simp)),fun _=>rfl⟩
 have I1:=I.laid (a:=s.heap.objs.size) (o:=.own (s.heap.objs.size+1)) (h':=s.heap.push PySem.W.emptyDict) (t':=s.toks) (fun b u q=>Mh _ q) (Mw _) ⟨_,e1⟩
 refine I1.laid (a:=s.heap.objs.size+1) (o:=.ins C s.heap.objs.size []) (t':=s.toks) (fun b u q=>Mh _ q) (Nat.le_of_eq (Heap.size_push _ _)) ?_
 have ne:s.heap.objs.size≠s.heap.objs.size+1:=MM (Nv _)
 refine⟨by rw[ar ne,ay],M_ _,ne,e2,fun _=>none,(Heap.Ns1.of_empty e3).at fun o q=>Mh _ q,fun _=>True.intro,fun y hy=>MY rfl hy⟩
theorem Fj{prog:Mv}{w:MH}{env:Env}{e:MJ}{f:Str}{pos:Pos}{s:Mi}{Q:Mg->Mi->Prop}(hb:attributeBase e f env (eval e env)=eval e env)
  (h:wpAny (model prog w) A (eval e env) (fun o s₁=>wpAny (model prog w) A (getAttr o f true) Q E s₁) E s):wpAny (model prog w) A (eval (.Attribute e f pos) env) Q E s:=
 Attribute_any_ h (by rw[arm_eval_Attribute,hb])
end
def KW(K:Mj)(ta:TE)(f:Str):TE:=fun σ H Q=>ta σ H fun x H1=>∃a C dx fs v,x=.ref a/\H1 a=some (.ins C dx fs)/\wA K C/\rA K C f/\fs.lookup f=some v/\Q v H1
def KF(K:Mj)(ta tv:TE)(f:Str):TS:=fun D σ H=>tv σ H fun y H1=>ta σ H1 fun x H2=>∃a C dx fs,x=.ref a/\H2 a=some (.ins C dx fs)/\wA K C/\rA K C f/\fs.length<1000 /\
 D.nx σ (upd H2 a (.ins C dx (tT f y fs)))
section
variable{X:Cx}{o e value:MJ}{f:Str}{pos pos' tpos:Pos}{ta tv:TE}
theorem nL(he:PE X e ta)(hb:attributeBase e f X.env (eval e X.env)=eval e X.env):PE X (.Attribute e f pos) (KW X.K ta f):=by
 intro pins s σ H Q I h
 refine Fj hb (qW (he pins s σ H _ I h) fun u s1 ⟨x,H1,I1,rx,a,C,dx,fs,v,ex,ea,c,n,l,q⟩=>?_)
 subst ex
 obtain rfl:u=Value.ref a:=rx
 exact A_ I1 ea c n l fun u' s2 I2 ru=>⟨v,H1,I2,ru,q⟩
theorem nv(ha:PE X o ta)(hv:PE X value tv)(hs:swapsWith value (some (.Attribute o f pos')) pos.line X.env=pure false):PS X (.Assign [.Attribute o f pos'] value pos) (KF X.K ta tv f):=by
 intro pins s σ H D I h
 refine plainObj_wpAny_Assign_Attribute (qW (hv pins s σ H _ I h) fun u s1 ⟨y,H1,I1,ry,q⟩=>qW (ha pins s1 σ H1 _ I1 q) fun ov s2 ⟨x,H2,I2,rx,a,C,dx,fs,ex,ea,c,n,l,q2⟩=>?_) hs
 subst ex
 obtain rfl:ov=Value.ref a:=rx
 exact Bp I2 ea c n l ry fun s3 I3=>⟨σ,_,I3,q2⟩
theorem Gk {pl:Sem Bool} {m:Str} {apos:Pos} {args:List MJ} {pins:List (Ml×Obj)} {s:Mi} {σ:St} {H:Hp} {Q:Mg->Mi->Prop} {te:TE} (he:PE X e te) (I:Inv X pins σ H s)
    (h:te σ H fun x H1=>∃a C dx fs g,x=.ref a/\H1 a=some (.ins C dx fs)/\wA X.K C/\zX X.K C m g/\fs.lookup m=none /\
      ∀s1,Inv X pins σ H1 s1->wpAny (model X.prog X.w) X.A (callWith pos (.ref g) [.ref a] (backTo pos (starEach args X.env)) (backToKw pos (keywordEach [] X.env))) Q X.xe s1)
    (ht:eval (.Call (.Attribute e m apos) args [] pos) X.env=(do
      let ov <- eval e X.env
      standAt apos.atName
      let (f,first) <- holding [ov] (getMethod ov m pl)
      callWith pos f first (backTo pos (starEach args X.env)) (backToKw pos (keywordEach [] X.env)))) :
    wpAny (model X.prog X.w) X.A (eval (.Call (.Attribute e m apos) args [] pos) X.env) Q X.xe s:=by
  refine PySem.W.methodCall_KW (pl:=pl) (qW (he pins s σ H _ I h) fun u s1 ⟨x,H1,I1,rx,a,C,dx,fs,g,ex,ea,c,k,l,q⟩=>?_) ht
  subst ex
  obtain rfl:u=Value.ref a:=rx
  exact vV I1 ea c k l (q s1 I1)
end
section
variable{X:Cx}{pins:List (Ml×Obj)}{σ:St}{H:Hp}{s:Mi}{A:MQ}{E:Mg->Mi->Prop}{Q:Mg->Mi->Prop}{c:Mg}{b:Bool}
end
end L2
namespace L2
open PySem PySem.Spec PyProof.Rows
structure ri (k:Nat) (A:MQ):Prop where
 hd:A.handled=none
 dp:A.depth+3*k+5<recursionLimit
 un:A.units+16*k+200<cLine
 gd:A.guards=some []
theorem ri.mono{j k:Nat}{A:MQ}(r:ri k A)(h:j<=k):ri j A:=⟨r.hd,by have:=r.dp;omega,by have:=r.un;omega,r.gd⟩
theorem ri.deeper{k:Nat}{A:MQ}(r:ri (k+1) A)(env:Env):ri k (A.deeper env):=
 ⟨r.hd,by have:=r.dp;show A.depth+1+3*k+5<_;omega,by have:=r.un;show A.units+3+16*k+200<_;omega,r.gd⟩
theorem ri.in1{k:Nat}{A:MQ}(r:ri (k+1) A):ri k A.in1:=
 ⟨r.hd,by have:=r.dp;show A.depth+3*k+5<_;omega,by have:=r.un;show A.units+1+16*k+200<_;omega,r.gd⟩
theorem AV{A:MQ}{C:Ml}{us:List Mg}{kw:List (Str×Mg)}:(A.under (.builtin "type.__call__" ⟨.ref C::us,kw⟩)).depth=A.depth+1:=by
 first | rfl | simp[Around.under,Code.weight,Code.isCreation,Code.isGuard,Code.isCaller,Code.frames,Code.isFrame,guardIds]
theorem Bs{A:MQ}{C:Ml}{us:List Mg}{kw:List (Str×Mg)}:(A.under (.builtin "type.__call__" ⟨.ref C::us,kw⟩)).units=A.units+1:=by
 first | rfl | simp[Around.under,Code.cUnits,Code.frames,Code.isFrame]
theorem ri.make{k:Nat}{A:MQ}(r:ri (k+1) A)(C:Ml)(us:List Mg)(kw:List (Str×Mg)):ri k (A.under (.builtin "type.__call__" ⟨.ref C::us,kw⟩)):=
 ⟨r.hd,by have:=r.dp;rw[AV];omega,by have:=r.un;rw[Bs];omega,by show pushGuards (Code.guards (.builtin "type.__call__" ⟨.ref C::us,kw⟩)) A.guards=_;rw[r.gd];first | rfl | simp[Code.guards,Code.isGuard,guardIds,pushGuards]⟩
theorem ri.depth{k:Nat}{A:MQ}(r:ri k A):A.depth<recursionLimit:=by have:=r.dp;omega
theorem ri.units{k:Nat}{A:MQ}(r:ri k A):A.units+64<cLine:=by have:=r.un;omega
def Ih:TA:=fun _ H Q=>Q [] H
def IZ(ta:TE)(tr:TA):TA:=fun σ H Q=>ta σ H fun x H1=>tr σ H1 fun xs H2=>Q (x::xs) H2
section
variable{X:Cx}{e:MJ}{es:List MJ}{te:TE}{t:TA}{pos:Pos}
theorem DT:PA X [] Ih:=fun _ _ _ _ H Q I h=>Calls.spliced_nil ⟨[],H,I,.nil,h⟩
theorem lO(ha:PE X e te)(hr:PA X es t)(hs:starEach (e::es) X.env=(false,eval e X.env)::starEach es X.env:=by rfl):PA X (e::es) (IZ te t):=by
 intro pos pins s σ H Q I h
 rw[hs]
 show wpAny _ _ (spliced ((false,eval e X.env)::backTo pos (starEach es X.env))) _ _ s
 refine Calls.spliced_cons (qW (ha pins s σ H _ I h) fun u s1 ⟨x,H1,I1,r1,q1⟩=>?_)
 exact qW (hr pos pins s1 σ H1 _ I1 q1) fun us s2 ⟨xs,H2,I2,r2,q2⟩=>⟨x::xs,H2,I2,.cons r1 r2,q2⟩
def KN(t:TA):TE:=fun σ H Q=>t σ H fun xs H1=>xs.length<=sizeLine/\∀p,H1 p=none->Q (.ref p) (upd H1 p (.tup xs))
def K0(t:TA):TE:=fun σ H Q=>t σ H fun xs H1=>xs.length<=sizeLine/\∀p,H1 p=none->Q (.ref p) (upd H1 p (.lst xs))
theorem qi{x1}(h:PA X es t):PE X (.Tuple es x1 pos) (KN t):=by
 intro pins s σ H Q I hq
 refine wpAny_Tuple_spliced (qW (h pos pins s σ H _ I hq) fun us s1 ⟨xs,H1,I1,r,z,q⟩=>⟨by rw[<- r.length];exact z,?_⟩)
 have hf:H1 s1.heap.objs.size=none:=I1.hok.fresh (Mw _)
 refine⟨.ref s1.heap.objs.size,upd H1 s1.heap.objs.size (.tup xs),I1.laid (t':=s1.toks) (fun b u e=>Mh _ e) (Mw _) ?_,rfl,q _ hf⟩
 exact⟨z,us,r,⟨_,Mq _ rfl,rfl,⟨_,rfl⟩,rfl⟩⟩
theorem kY(h:PA X es t):PE X (.List es pos) (K0 t):=by
 intro pins s σ H Q I hq
 refine wpAny_List_spliced (qW (h pos pins s σ H _ I hq) fun us s1 ⟨xs,H1,I1,r,z,q⟩=>⟨by rw[<- r.length];exact z,?_⟩)
 have hf:H1 s1.heap.objs.size=none:=I1.hok.fresh (Mw _)
 refine⟨.ref s1.heap.objs.size,upd H1 s1.heap.objs.size (.lst xs),I1.laid (t':=s1.toks) (fun b u e=>Mh _ e) (Mw _) ?_,rfl,q _ hf⟩
 exact⟨z,us,0,r,Mq _ rfl⟩
end
abbrev Sp:=List V->Hp->VK->XK->Prop
abbrev Bq:=List Env->Hp->Mi->XK->Mg->Mi->Prop
structure yy (P:Mv) (w:MH) (K:Mj) (mg:Str->Me Mg) (base:MI) (A:MQ) (outer:List Env) (s:Mi) (H:Hp):Prop where
 frames:A.frames=some outer
 mod:Mod K mg base
 bs:∀b o,base.get? b=some o->s.heap.get? b=some o/\H b=none
 bsz:base.objs.size<=s.heap.objs.size
 funs:s.heap.FunFrames base outer
 frf:∀b∈AL outer,H b=none
 hok:xl P w H s.heap
 bare:AllBare s.gens
def CE(outer:List Env)(P:Mv)(w:MH)(H:Hp)(s:Mi)(Q:VK)(u:Mg)(s':Mi):Prop:=
 ∃v H',s'.os=s.os/\AllBare s'.gens/\Un (AL outer) [] H H' s.heap s'.heap/\xl P w H' s'.heap/\RelV v u/\Q v H'
def CR(CX:Bq)(outer:List Env)(P:Mv)(w:MH)(H:Hp)(s:Mi)(Q:VK)(E:XK)(r:Result)(s':Mi):Prop:=
 match r with
 | .ok (.ret u)=>CE outer P w H s Q u s'
 | .ok _=>False
 | .error e=>CX outer H s E e s'
structure l7 (P:Mv) (w:MH) (K:Mj) (mg:Str->Me Mg) (base:MI) (CX:Bq) (k:Nat) (f:Ml) (fd:Nl) (ps:List Str) (sp:Sp):Prop where
 len:∀vs H Q E,sp vs H Q E->vs.length=ps.length
 run:∀(A:MQ) (outer:List Env) (s:Mi) (H:Hp) (args:Args) (us:List Mg) (vs:List V) (Q:VK) (E:XK),ri k A->yy P w K mg base A outer s H->BindsTo s fd args (ps.zip us)->m8 vs us->sp vs H Q E ->
  codeAny (model P w) A (.call (.ref f) args) (CR CX outer P w H s Q E) s
theorem l7.mono{P:Mv}{w:MH}{K:Mj}{mg:Str->Me Mg}{base:MI}{CX:Bq}{j k:Nat}{f:Ml}{fd:Nl}{ps:List Str}{sp:Sp}(F:l7 P w K mg base CX j f fd ps sp)(h:j<=k) :
  l7 P w K mg base CX k f fd ps sp:=⟨F.len,fun A outer s H args us vs Q E hr=>F.run A outer s H args us vs Q E (hr.mono h)⟩
theorem l7.imp{P:Mv}{w:MH}{K:Mj}{mg:Str->Me Mg}{base:MI}{CX:Bq}{k:Nat}{f:Ml}{fd:Nl}{ps:List Str}{sp sp':Sp}(F:l7 P w K mg base CX k f fd ps sp)
  (h:∀vs H Q E,sp' vs H Q E->sp vs H Q E):l7 P w K mg base CX k f fd ps sp':=
 ⟨fun vs H Q E q=>F.len vs H Q E (h _ _ _ _ q),fun A outer s H args us vs Q E hr he hb hv hs=>F.run A outer s H args us vs Q E hr he hb hv (h _ _ _ _ hs)⟩
theorem yy.make{P:Mv}{w:MH}{K:Mj}{mg:Str->Me Mg}{base:MI}{A:MQ}{outer:List Env}{s:Mi}{H:Hp}(e:yy P w K mg base A outer s H)(C:Ml)(us:List Mg)(kw:List (Str×Mg)) :
  yy P w K mg base (A.under (.builtin "type.__call__" ⟨.ref C::us,kw⟩)) outer s H:=⟨by first | exact e.frames | (simpa [Around.under,Code.envs,Code.isFrame,pushEnvs] using e.frames),e.mod,e.bs,e.bsz,e.funs,e.frf,e.hok,e.bare⟩
theorem yy.in1{P:Mv}{w:MH}{K:Mj}{mg:Str->Me Mg}{base:MI}{A:MQ}{outer:List Env}{s:Mi}{H:Hp}(e:yy P w K mg base A outer s H) :
  yy P w K mg base A.in1 outer s H:=⟨e.frames,e.mod,e.bs,e.bsz,e.funs,e.frf,e.hok,e.bare⟩
section
variable{X:Cx}{pins:List (Ml×Obj)}{σ:St}{H:Hp}{s s':Mi}
theorem Inv.env0(I:Inv X pins σ H s):yy X.prog X.w X.K X.mg X.base X.A X.stack s H:=
 ⟨I.ok.frames,I.ok.mod,I.bs,MN I.ok.bsz I.sz,I.stack,I.stkFree,I.hok,I.bare⟩
theorem Inv.after{Q:VK}{u:Mg}(I:Inv X pins σ H s)(h:CE X.stack X.prog X.w H s Q u s'):EP X pins σ Q u s':=by
 obtain⟨v,H',os,bare,un,hok,r,q⟩:=h
 obtain⟨hh,g,d,t,os'⟩:=s'
 obtain rfl:os'=s.os:=os
 exact⟨v,H',I.call (h':=hh) (g':=g) (d':=d) (t':=t) (ch:=[]) un hok bare (fun b z=>MY z (by simp)),r,q⟩
end
def Gi(sp:Sp)(dvs:List V)(E:XK)(t:TA):TE:=fun σ H Q=>t σ H fun vs H1=>sp (vs++dvs) H1 Q E
def DR(C:Ml)(m:Str)(sp:Sp)(dvs:List V)(E:XK)(ta:TE)(t:TA):TE:=fun σ H Q=>ta σ H fun x H1=>∃a dx fs,x=.ref a/\H1 a=some (.ins C dx fs)/\fs.lookup m=none /\
 t σ H1 fun vs H2=>sp (x::(vs++dvs)) H2 Q E
def Do(C:Ml)(sp:Sp)(dvs:List V)(E:XK)(t:TA):TE:=fun σ H Q=>t σ H fun vs H1=>∀x dx,H1 x=none->H1 dx=none->dx≠x ->
 sp (.ref x::(vs++dvs)) (upd (upd H1 dx (.own x)) x (.ins C dx [])) (fun v H2=>v=.non/\Q (.ref x) H2) E
def Binds(K:Mj)(fd:Nl)(ps:List Str)(ds:List Mg):Prop:=
 ∀(s:Mi) (us:List Mg),K.In s.heap->(us++ds).length=ps.length->BindsTo s fd ⟨us,[]⟩ (ps.zip (us++ds))
theorem Binds.all{K:Mj}{fd:Nl}{ps:List Str}(h:∀us:List Mg,us.length=ps.length->bindArgs fd ⟨us,[]⟩=pure (ps.zip us)):Binds K fd ps []:=fun s us _ hl=>by
 rw[M5] at hl ⊢
 exact .of_eq (h us hl)
def vX(CX:Bq)(X:Cx)(E:XK):Prop:=∀(pins:List (Ml×Obj)) (σ:St) (H:Hp) (s:Mi) (e:Mg) (s':Mi),Inv X pins σ H s->CX X.stack H s E e s'->X.xe e s'
section
variable{X:Cx}{CX:Bq}{k:Nat}{f C:Ml}{fd:Nl}{ps:List Str}{sp:Sp}{dvs:List V}{ds:List Mg}{E:XK}{x m:Str}{p pos apos:Pos}{e o:MJ}{es:List MJ}{ta:TE}{t:TA}
theorem zF{pins:List (Ml×Obj)}{σ:St}{H:Hp}{s:Mi}{Q:VK}{us:List Mg}{vs:List V}(F:l7 X.prog X.w X.K X.mg X.base CX k f fd ps sp)(hr:ri k X.A)(hb:Binds X.K fd ps ds)(hd:m8 dvs ds)(hx:vX CX X E)
  (I:Inv X pins σ H s) (r:m8 vs us) (h:sp (vs++dvs) H Q E):wpAny (model X.prog X.w) X.A (call (.ref f) us) (EP X pins σ Q) X.xe s:=by
 have r2:m8 (vs++dvs) (us++ds):=r.append hd
 have hl:(us++ds).length=ps.length:=by rw[<- r2.length];exact F.len _ _ _ _ h
 refine wpAny_call (codeAny_mono (F.run X.A X.stack s H ⟨us,[]⟩ (us++ds) (vs++dvs) Q E hr I.env0 (hb s us I.kIn hl) r2 h) fun r s' hq=>?_)
 cases r with
 | error e=>exact hx pins σ H s e s' I hq
 | ok fl =>
  cases fl with
  | ret u=>exact I.after hq
  | next=>exact False.elim hq
  | brk=>exact False.elim hq
  | cont=>exact False.elim hq
theorem jO(F:l7 X.prog X.w X.K X.mg X.base CX k f fd ps sp)(hr:ri k X.A)(hg:Gl X x)(hm:X.mg x=some (.ref f))(hk:PySem.W.keepIn X.K (.ref f)=true)(hb:Binds X.K fd ps ds)(hd:m8 dvs ds)(hx:vX CX X E)
  (ha:PA X (e::es) t) (hdb:(x==("__debug__" : Str))=false:=by decide) (he:starEach (e::es) X.env=(false,eval e X.env)::starEach es X.env:=by rfl) (hpl:(backTo pos (starEach es X.env)).any (·.1)=false:=by rfl) :
  PE X (.Call (.Name x p) (e::es) [] pos) (Gi sp dvs E t):=by
 intro pins s σ H Q I h
 refine Nw (ju I hg hm ?_ hdb)
 refine PySem.W.callWith_K (h₀:=X.base) I.ok.mod.kin hk (qW (ha pos pins s σ H _ I h) fun us s1 ⟨vs,H1,I1,r,q⟩=>⟨I1.kIn,?_⟩) he hpl
 exact zF F hr hb hd hx I1 r q
theorem lV {pl:Sem Bool} (he:PE X o ta) (c:wA X.K C) (hm:zX X.K C m f) (F:l7 X.prog X.w X.K X.mg X.base CX k f fd ps sp) (hr:ri k X.A) (hb:Binds X.K fd ps ds) (hd:m8 dvs ds) (hx:vX CX X E) (ha:PA X (e::es) t)
    (hst:starEach (e::es) X.env=(false,eval e X.env)::starEach es X.env:=by rfl) (hpl:(backTo pos (starEach es X.env)).any (·.1)=false:=by rfl)
    (ht:eval (.Call (.Attribute o m apos) (e::es) [] pos) X.env=(do
      let ov <- eval o X.env
      standAt apos.atName
      let (f,first) <- holding [ov] (getMethod ov m pl)
      callWith pos f first (backTo pos (starEach (e::es) X.env)) (backToKw pos (keywordEach [] X.env))):=by rfl) :
    PE X (.Call (.Attribute o m apos) (e::es) [] pos) (DR C m sp dvs E ta t):=by
  intro pins s σ H Q I h
  refine PySem.W.methodCall_KW (pl:=pl) (qW (he pins s σ H _ I h) fun u s1 ⟨x,H1,I1,rx,a,dx,fs,ex,ea,l,q⟩=>?_) ht
  subst ex
  obtain rfl:u=Value.ref a:=rx
  refine vV I1 ea c hm l ?_
  refine PySem.W.callWith_K (first:=[.ref a]) (h₀:=X.base) I.ok.mod.kin hm.kp (qW (ha pos pins s1 σ H1 _ I1 q) fun us s2 ⟨vs,H2,I2,r,q2⟩=>⟨I2.kIn,?_⟩) hst hpl
  exact zF (us:=.ref a::us) (vs:=.ref a::vs) F hr hb hd hx I2 (.cons rfl r) q2
theorem nu {pl:Sem Bool} (he:PE X o ta) (c:wA X.K C) (hm:zX X.K C m f) (F:l7 X.prog X.w X.K X.mg X.base CX k f fd ps sp) (hr:ri k X.A) (hb:Binds X.K fd ps ds) (hd:m8 dvs ds) (hx:vX CX X E)
    (ht:eval (.Call (.Attribute o m apos) [] [] pos) X.env=(do
      let ov <- eval o X.env
      standAt apos.atName
      let (f,first) <- holding [ov] (getMethod ov m pl)
      callWith pos f first (backTo pos (starEach [] X.env)) (backToKw pos (keywordEach [] X.env))):=by rfl) :
    PE X (.Call (.Attribute o m apos) [] [] pos) (DR C m sp dvs E ta Ih):=by
  intro pins s σ H Q I h
  refine PySem.W.methodCall_KW (pl:=pl) (qW (he pins s σ H _ I h) fun u s1 ⟨x,H1,I1,rx,a,dx,fs,ex,ea,l,q⟩=>?_) ht
  subst ex
  obtain rfl:u=Value.ref a:=rx
  refine vV I1 ea c hm l ?_
  exact PySem.W.callWith_K0 (first:=[.ref a]) I1.kIn hm.kp (zF (us:=[.ref a]) (vs:=[.ref a]) F hr hb hd hx I1 (.cons rfl .nil) q)
structure Mk (K:Mj) (C f:Ml):Prop where
 makes:PySem.W.makesIn K C=true
 init:PySem.W.findIn K (.ref C) "__init__" = some (some (.ref f))
 fn:PySem.W.isFn K (.ref f)=true
 kp:PySem.W.keepIn K (.ref C)=true
theorem Dr{pins:List (Ml×Obj)}{σ:St}{H:Hp}{s:Mi}{Q:VK}{us:List Mg}{vs:List V}(M:Mk X.K C f)(F:l7 X.prog X.w X.K X.mg X.base CX k f fd ps sp)(hr:ri (k+1) X.A)(hb:Binds X.K fd ps ds)(hd:m8 dvs ds)
  (hx:vX CX X E) (I:Inv X pins σ H s) (r:m8 vs us)
  (h:∀x dx,H x=none->H dx=none->dx≠x->sp (.ref x::(vs++dvs)) (upd (upd H dx (.own x)) x (.ins C dx [])) (fun v H2=>v=.non/\Q (.ref x) H2) E) :
  wpAny (model X.prog X.w) X.A (call (.ref C) us) (EP X pins σ Q) X.xe s:=by
 have hq:=h (s.heap.objs.size+1) s.heap.objs.size (I.hok.fresh (Nat.le_succ _)) (I.hok.fresh (Mw _)) (MM (Nv _))
 have I2:=Inv.made (C:=C) I
 have r2:m8 (V.ref (s.heap.objs.size+1)::(vs++dvs)) (Value.ref (s.heap.objs.size+1)::(us++ds)):=.cons rfl (r.append hd)
 have hl:(Value.ref (s.heap.objs.size+1)::us++ds).length=ps.length:=by
  have e:=r2.length
  rw[F.len _ _ _ _ hq] at e
  exact e.symm
 refine wpAny_call (Ed (f:=f) I.kIn M.makes M.init (NC.mp M.fn) (codeAny_mono (F.run _ X.stack _ _ ⟨Value.ref (s.heap.objs.size+1)::us,[]⟩ (Value.ref (s.heap.objs.size+1)::(us++ds)) _ _ E (hr.make C us [])
  (I2.env0.make C us []) (hb _ (Value.ref (s.heap.objs.size+1)::us) I2.kIn hl) r2 hq) fun r s' hq'=>?_))
 cases r with
 | error e=>exact hx pins σ _ _ e s' I2 hq'
 | ok fl =>
  cases fl with
  | ret u =>
   obtain⟨v,H',I3,rv,ev,q3⟩:=I2.after hq'
   subst ev
   exact⟨rv,⟨V.ref (s.heap.objs.size+1),H',I3,rfl,q3⟩⟩
  | next=>exact False.elim hq'
  | brk=>exact False.elim hq'
  | cont=>exact False.elim hq'
theorem pD(M:Mk X.K C f)(F:l7 X.prog X.w X.K X.mg X.base CX k f fd ps sp)(hr:ri (k+1) X.A)(hg:Gl X x)(hm:X.mg x=some (.ref C))(hb:Binds X.K fd ps ds)(hd:m8 dvs ds)(hx:vX CX X E)
  (ha:PA X (e::es) t) (hdb:(x==("__debug__" : Str))=false:=by decide) (he:starEach (e::es) X.env=(false,eval e X.env)::starEach es X.env:=by rfl) (hpl:(backTo pos (starEach es X.env)).any (·.1)=false:=by rfl) :
  PE X (.Call (.Name x p) (e::es) [] pos) (Do C sp dvs E t):=by
 intro pins s σ H Q I h
 refine Nw (ju I hg hm ?_ hdb)
 refine PySem.W.callWith_K (h₀:=X.base) I.ok.mod.kin M.kp (qW (ha pos pins s σ H _ I h) fun us s1 ⟨vs,H1,I1,r,q⟩=>⟨I1.kIn,?_⟩) he hpl
 exact Dr M F hr hb hd hx I1 r q
end
section
variable{X:Cx}{CX:Bq}{k:Nat}{f C:Ml}{fd:Nl}{ps ks:List Str}{sp:Sp}{E:XK}{x m:Str}{p pos apos kpos:Pos}{e o:MJ}{es:List MJ}{kws:List Keyword}{te ta:TE}{t tk:TA}{nm:Me Str}
variable{g:List Mg->List Mg->List Mg}{gV:List V->List V->List V}
end
structure k4 (N P:List Str) (sc:Scope):Prop where
 kind:sc.kind=.function
 co:sc.isCoroutine=false
 gen:sc.isGenerator=false
 nd:N.Nodup
 pre:N.take P.length=P
 par:∀x∈P,sc.names.lookup x=some .local\/sc.names.lookup x=some .cell
 nofree:∀y∈sc.names,y.2≠.free
theorem rW{N P:List Str}{sc:Scope}(h1:N.Nodup:=by decide +kernel)(h2:∀x∈P,sc.names.lookup x=some .local\/sc.names.lookup x=some .cell:=by decide +kernel)(h3:∀y∈sc.names,y.2≠.free:=by decide +kernel)(k:sc.kind=.function:=by rfl)(c:sc.isCoroutine=false:=by rfl)(g:sc.isGenerator=false:=by rfl)(p:N.take P.length=P:=by rfl):k4 N P sc:=⟨k,c,g,h1,p,h2,h3⟩
theorem yI{kindOf:Str->Me NameKind}{x:Str}:∀{binds:List (Str×Mg)} {m:Str->Me Mg},(∀v,(x,v)∉binds)->bindL kindOf binds m x=m x
 | [],_,_=>rfl
 | (n,v)::r,m,h=>by
  unfold bindL
  rw[yI fun w hw=>h w (MV _ hw)]
  split
  ·have:x≠n:=by rintro rfl;exact h v M4
   simp[this]
  ·rfl
theorem yZ{kindOf:Str->Me NameKind}{x:Str}:∀{binds:List (Str×Mg)} {m:Str->Me Mg},(∀v,(x,v)∉binds)->bindC kindOf binds m x=m x
 | [],_,_=>rfl
 | (n,v)::r,m,h=>by
  unfold bindC
  rw[yZ fun w hw=>h w (MV _ hw)]
  split
  ·rfl
  ·have:x≠n:=by rintro rfl;exact h v M4
   simp[this]
theorem yS{kindOf:Str->Me NameKind}{x:Str}{v:Mg}:∀{P:List Str} {vs:List Mg} {i:Nat} {m:Str->Me Mg},P.Nodup->P[i]?=some x->vs[i]?=some v->kindOf x=some .local ->
  bindL kindOf (P.zip vs) m x=some v
 | [],_,_,_,_,h,_,_=>by simp at h
 | _::_,[],_,_,_,_,h,_=>by simp at h
 | p::P,w::vs,0,m,nd,h1,h2,hk=>by
  simp at h1 h2;subst h1;subst h2
  show bindL kindOf ((p,w)::P.zip vs) m p=_
  unfold bindL
  rw[yI fun v hv=>(List.nodup_cons.mp nd).1 (List.of_mem_zip hv).1,Mo hk]
  simp
 | p::P,w::vs,i+1,m,nd,h1,h2,hk=>by
  show bindL kindOf ((p,w)::P.zip vs) m x=_
  unfold bindL
  exact yS (i:=i) (List.nodup_cons.mp nd).2 (by simpa using h1) (by simpa using h2) hk
theorem yY{kindOf:Str->Me NameKind}{x:Str}{v:Mg}:∀{P:List Str} {vs:List Mg} {i:Nat} {m:Str->Me Mg},P.Nodup->P[i]?=some x->vs[i]?=some v->kindOf x≠some .local ->
  bindC kindOf (P.zip vs) m x=some v
 | [],_,_,_,_,h,_,_=>by simp at h
 | _::_,[],_,_,_,_,h,_=>by simp at h
 | p::P,w::vs,0,m,nd,h1,h2,hk=>by
  simp at h1 h2;subst h1;subst h2
  show bindC kindOf ((p,w)::P.zip vs) m p=_
  unfold bindC
  rw[yZ fun v hv=>(List.nodup_cons.mp nd).1 (List.of_mem_zip hv).1,Mx hk]
  simp
 | p::P,w::vs,i+1,m,nd,h1,h2,hk=>by
  show bindC kindOf ((p,w)::P.zip vs) m x=_
  unfold bindC
  exact yY (i:=i) (List.nodup_cons.mp nd).2 (by simpa using h1) (by simpa using h2) hk
def start(N:List Str)(vs:List V):St:=vs.map some++List.replicate (N.length - vs.length) none
noncomputable def yo(CX:Bq)(P:Mv)(w:MH)(K:Mj)(mg:Str->Me Mg)(base:MI)(N:List Str)(qual:Str)(scope:Scope)(f:Ml)(cd:Mg)(A:MQ)(outer:List Env)(s:Mi)(H:Hp)(E:XK):Cx where
 prog:=P
 w:=w
 K:=K
 mg:=mg
 base:=base
 A:=A.deeper (envOfC qual scope s.heap.objs.size f cd)
 N:=N
 s₀:=s
 H₀:=H
 env:=envOfC qual scope s.heap.objs.size f cd
 outer:=outer
 stack:=envOfC qual scope s.heap.objs.size f cd::outer
 ex:=[]
 calm:=true
 fn:=fun _=>true
 pn:=[]
 xe:=fun e s'=>wpAny (model P w) (A.deeper (envOfC qual scope s.heap.objs.size f cd)) (leaving (envOfC qual scope s.heap.objs.size f cd) e) (fun _ s''=>CX outer H s E e s'') (fun e' s''=>CX outer H s E e' s'') s'
theorem Ag{sc:Scope}{n:Nat}{x:Str}(h:sc.names.lookup x=some .cell):∃c,(cellsFrom n sc.names []).lookup x=some c:=by
 have q:=PySem.W.cellsFrom_some sc.names n [] (.inl h)
 exact Option.isSome_iff_exists.mp q
theorem Cf{CX:Bq}{P:Mv}{w:MH}{K:Mj}{mg:Str->Me Mg}{base:MI}{N ps:List Str}{qual:Str}{scope:Scope}{f:Ml}{cd:Mg}{A:MQ}{outer:List Env}{s s1:Mi}{H:Hp}{E:XK}{us:List Mg}{vs:List V}
  (S:k4 N ps scope) (hd:A.handled=none) (e0:yy P w K mg base A outer s H) (hl:vs.length=ps.length) (r:m8 vs us)
  (x:InCallC s s.heap.objs.size (bindL (envOfC qual scope s.heap.objs.size f cd).kindOf (ps.zip us) fun _=>none) (cellsFrom (s.heap.objs.size+1) scope.names []) (bindC (envOfC qual scope s.heap.objs.size f cd).kindOf (ps.zip us) fun _=>none) s1) :
  Inv (yo CX P w K mg base N qual scope f cd A outer s H E) [] (start N vs) H s1:=by
 have hpl:ps.length<=N.length:=by have:=congrArg List.length S.pre;rw[NB] at this;omega
 obtain⟨h1,tk,rfl,hk⟩:=x.done
 have noA:∀b:Ml,b∉(yo CX P w K mg base N qual scope f cd A outer s H E).ex:=fun b z=>MY (show b∈([]:List Ml) from z) (by simp)
 refine⟨⟨e0.mod,S.kind,rfl,rfl,Mw _,fun y z c h1 h2=>?_,fun y hy=>?_,fun y c _ h=>?_,fun _=>hd,Around.frames_deeper e0.frames,.inr ⟨rfl,rfl⟩,fun b z=>MY z (noA b),e0.bs,e0.bsz,fun b _ _=>noA b,fun b z=>MY z (noA b),e0.funs,e0.frf⟩,
  rfl,e0.bare,Un.kept hk,⟨_,x.toInCall.ns,fun i y v h1 h2 h3=>?_⟩,fun y c h=>⟨_,x.cell y c h⟩,e0.hok.fresh (Mw _),fun y c h=>?_,fun p hp=>MY (show p∈([]:List (Ml×Obj)) from hp) (by simp),e0.hok.kept hk,?_⟩
 ·exact name_of_addr x.apart (Nt h1) (Nt h2)
 ·have hy:scope.names.lookup y=some .cell\/scope.names.lookup y=some .free:=hy
  rcases hy with hy | hy
  ·exact Ag hy
  ·exact MY rfl (S.nofree _ (Nt hy))
 ·exact Nat.le_of_lt (x.above y c (Nt h))
 ·have hi:i<vs.length:=by
   unfold start at h2
   by_cases hi:i<vs.length
   ·exact hi
   ·rw[M0 (by simpa using hi)] at h2
    rw[List.getElem?_replicate] at h2
    split at h2<;>cases h2
  have ha:vs[i]?=some v:=by
   unfold start at h2
   rw[Nh (by simpa using hi),Nb] at h2
   cases e:vs[i]? with
   | none=>rw[e] at h2;cases h2
   | some a=>rw[e] at h2;cases h2;rfl
  obtain⟨u,hu,rv⟩:=r.get ha
  have hp:ps[i]?=some y:=by
   rw[<- S.pre,List.getElem?_take_of_lt (by omega)];exact h1
  have ndP:ps.Nodup:=by rw[<- S.pre];exact S.nd.sublist (List.take_sublist _ _)
  refine⟨u,rv,?_⟩
  rcases S.par y (NA hp) with k | k
  ·exact .inl ⟨k,yS ndP hp hu k⟩
  ·obtain⟨c,e⟩:=Ag (n:=s.heap.objs.size+1) k
   refine .inr ⟨.inl k,c,e,?_⟩
   have q:=x.cell y c e
   rw[yY ndP hp hu (by show scope.names.lookup y≠_;rw[k];decide)] at q
   exact q
 ·exact e0.hok.fresh (Nat.le_of_lt (x.above y c (Nt h)))
 ·unfold start
  show _=N.length
  rw[MP,Ms,List.length_replicate]
  omega
theorem qB {CX:Bq} {P:Mv} {w:MH} {K:Mj} {mg:Str->Me Mg} {base:MI} {k:Nat} {f:Ml} {name qual:Str} {params:Arguments} {body:List ML} {scope:Scope} {dV kV doc pm cdv ct oc:Mg} {an od:Me Ml}
    {osl:Array (Me Mg)} {N ps:List Str} {sp:Sp} (lk:K.lookup f=some ⟨oc,od,.func (PySem.W.fnOf name qual params body scope dV kV doc pm an cdv ct),osl⟩) (hcd:PySem.W.codeIn K cdv qual=true) (S:k4 N ps scope)
    (len:∀vs H Q E,sp vs H Q E->vs.length=ps.length)
    (hbody:∀(A:MQ) (outer:List Env) (s:Mi) (H:Hp) (vs:List V) (Q:VK) (E:XK),ri k (A.deeper (envOfC qual scope s.heap.objs.size f cdv))->sp vs H Q E ->
      ∃t,PSs (yo CX P w K mg base N qual scope f cdv A outer s H E) body t/\t {nx:=fun _ H'=>Q .non H',rt:=Q} (start N vs) H) :
    l7 P w K mg base CX (k+1) f (PySem.W.fnOf name qual params body scope dV kV doc pm an cdv ct) ps sp:=by
  refine⟨len,fun A outer s H args us vs Q E hr e0 hb r hsp=>?_⟩
  have hl:=len _ _ _ _ hsp
  have KX:K.In s.heap:=e0.mod.kin.keeps fun b o e=>(e0.bs b o e).1
  have lim:s.heap.NoLimit:=e0.mod.nolimit.keeps fun b o e=>(e0.bs b o e).1
  have hkind:∀y∈ps.zip us,scope.names.lookup y.1=some .local\/(scope.names.lookup y.1=some .cell/\((cellsFrom (s.heap.objs.size+1) scope.names []).lookup y.1).isSome=true):=fun ⟨n,v⟩ hy=>by
    rcases S.par n (List.of_mem_zip hy).1 with q | q
    · exact .inl q
    · exact .inr ⟨q,PySem.W.cellsFrom_some _ _ _ (.inl q)⟩
  refine codeAny_call_function hr.depth (KX _ _ lk) rfl S.co S.gen rfl (PySem.W.codeRec_of KX hcd) (hb _ _ _ _ ?_)
  refine wpAny_newFunctionEnv_cells S.kind hkind fun env he s1 x=>?_
  subst he
  refine⟨lim.keeps x.toInCall.keep,codeAny_func ?_⟩
  obtain⟨t,ht,hq⟩:=hbody A outer s H vs Q E (hr.deeper _) hsp
  have I:Inv (yo CX P w K mg base N qual scope f cdv A outer s H E) [] (start N vs) H s1:=Cf S hr.hd e0 hl r x
  refine Nu (ht [] s1 (start N vs) H _ I hq) (fun fl s' hs=>?_) fun e s' hs=>hs
  have fin:∀{σ':St} {H':Hp} {v:V} {u:Mg},Inv (yo CX P w K mg base N qual scope f cdv A outer s H E) [] σ' H' s'->RelV v u->Q v H'->CE outer P w H s Q u s':=
    fun {σ' H' v u} J rv q=>⟨v,H',J.os,J.bare,J.base,J.hok,rv,q⟩
  cases fl with
  | ret u =>
    obtain⟨v,σ',H',J,rv,q⟩:=hs
    exact fin J rv q
  | next =>
    obtain⟨σ',H',J,q⟩:=hs
    exact fin (v:=V.non) (u:=Value.none) J rfl q
  | brk =>
    obtain⟨_,_,_,q⟩:=hs
    exact False.elim q
  | cont =>
    obtain⟨_,_,_,q⟩:=hs
    exact False.elim q
end L2
namespace L2
open PySem PySem.Spec PyProof.Rows
section
variable{X:Cx}{x:Str}{p pos:Pos}{e:MJ}{es:List MJ}{t:TA}{id T:String}{r:List V->Hp->VK->Prop}
def Lv(r:List V->Hp->VK->Prop)(t:TA):TE:=fun σ H Q=>t σ H fun vs H1=>r vs H1 Q
theorem nU(hc:CallR X (.builtin id) r)(hg:Gl X x)(hm:X.mg x=none)(hv:bootBuiltins x=some (.builtin id))(ha:PA X (e::es) t)(hn:x ≠ "__name__":=by decide)(hdb:(x==("__debug__" : Str))=false:=by decide)
  (he:starEach (e::es) X.env=(false,eval e X.env)::starEach es X.env:=by rfl) (hpl:(backTo pos (starEach es X.env)).any (·.1)=false:=by rfl):PE X (.Call (.Name x p) (e::es) [] pos) (Lv r t):=by
 intro pins s σ H Q I h
 refine Nw (cT I hg hm hv ?_ hn hdb)
 exact PyProof.Rows.callWith_builtin1 (qW (ha pos pins s σ H _ I h) fun us s1 ⟨vs,H1,I1,r1,q1⟩=>hc pins s1 σ H1 vs us Q I1 r1 q1) he hpl
theorem mL(hc:CallR X (.type T) r)(hg:Gl X x)(hm:X.mg x=none)(hv:bootBuiltins x=some (.type T))(ha:PA X (e::es) t)(hn:x ≠ "__name__":=by decide)(hdb:(x==("__debug__" : Str))=false:=by decide)
  (he:starEach (e::es) X.env=(false,eval e X.env)::starEach es X.env:=by rfl) (hpl:(backTo pos (starEach es X.env)).any (·.1)=false:=by rfl):PE X (.Call (.Name x p) (e::es) [] pos) (Lv r t):=by
 intro pins s σ H Q I h
 refine Nw (cT I hg hm hv ?_ hn hdb)
 exact PyProof.Rows.callWith_type1 (qW (ha pos pins s σ H _ I h) fun us s1 ⟨vs,H1,I1,r1,q1⟩=>hc pins s1 σ H1 vs us Q I1 r1 q1) he hpl
end
end L2
namespace HT
open PySem PyProof.Rows
section
open PySem.SeqAt
open PySem.AutoSeq1 (wpAny_loadPart')
open PySem.MeetsSeq PySem.MeetsSeq2 PySem.MeetsSeq3
end
section
variable{prog:Mv}{w:MH}{A:MQ}{E:Mg->Mi->Prop}{s:Mi}
theorem cat_tup{t b:Ml}{vs ws:List Mg}{Q:Mg->Mi->Prop}(ht:IsTup s.heap t vs.toArray)(hb:IsTup s.heap b ws.toArray)(hv:vs ≠ [])
  (h1:ws=[]->Q (.ref t) s) (h2:ws ≠ []->Q (.ref s.heap.objs.size) {s with heap:=s.heap.push {cls:=.type "tuple",data:=.seq (vs++ws).toArray} })
  (hsz:vs.length+ws.length<=sizeLine):wpAny (model prog w) A (binaryOp .Add (.ref t) (.ref b)) Q E s:=by
 obtain⟨⟨cls,dd,data,sl⟩,ho,hc,n,hd⟩:=id ht
 obtain⟨⟨cls2,dd2,data2,sl2⟩,ho2,hc2,n2,hd2⟩:=id hb
 simp only at hc hd hc2 hd2
 subst hc hd hc2 hd2
 have e:vs.toArray++ws.toArray=(vs++ws).toArray:=by simp
 by_cases hw:ws=[]
 ·exact concat_meets ⟨_,ho,rfl⟩ ⟨_,ho2,rfl⟩ noFill_tuple_add seq_tuple_add PySem.F.slot_tuple_add PySem.F.entry_tuple_add (PySem.F.args_tuple_add_2 _ _)
   (tuple_addW1 t b vs.toArray ws.toArray n n2 dd dd2 sl sl2 (by simpa using hv) (by simp[hw])) ⟨ho,ho2,h1 hw⟩
 ·refine concat_meets ⟨_,ho,rfl⟩ ⟨_,ho2,rfl⟩ noFill_tuple_add seq_tuple_add PySem.F.slot_tuple_add PySem.F.entry_tuple_add (PySem.F.args_tuple_add_2 _ _)
   (tuple_addW2 t b vs.toArray ws.toArray n n2 dd dd2 sl sl2 (by simpa using hv) (by simpa using hw) (by rw[Mz,Mz];exact hsz)) ⟨ho,ho2,?_⟩
  rw[e]
  exact h2 hw
noncomputable def sIx(n d:Nat):Me Int->Nat
 | none=>d
 | some v=>if v<0 then (v+(n:Int)).toNat else min v.toNat n
theorem GI(n d:Nat)(hd:d<=n)(o:Me Int):sIx n d o<=n:=by
 cases o with
 | none=>exact hd
 | some v =>
  show(if v<0 then (v+(n:Int)).toNat else min v.toNat n)<=n
  by_cases hv:v<0
  ·rw[Mo hv];omega
  ·rw[Mx hv];exact Nat.min_le_right _ _
theorem B_(v:Int)(n d:Nat):(if v<0 then max (v+(n:Int)) 0 else min v (n:Int))=((sIx n d (some v):Nat):Int):=by
 show(if v<0 then max (v+(n:Int)) 0 else min v (n:Int))=(((if v<0 then (v+(n:Int)).toNat else min v.toNat n):Nat):Int)
 by_cases hv:v<0
 ·simp only[Mo hv];omega
 ·simp only[Mx hv];omega
theorem A9(lo hi:Me Int)(n:Nat):Builtin.Slice.sliceAdjust lo hi 1 (n:Int)=(((sIx n 0 lo:Nat):Int),((sIx n n hi:Nat):Int)):=by
 have h1:¬ ((1:Int)<0):=by omega
 unfold Builtin.Slice.sliceAdjust
 simp only[h1,if_false]
 refine Prod.ext ?_ ?_
 ·cases lo with
  | none=>rfl
  | some v=>exact B_ v n 0
 ·cases hi with
  | none=>rfl
  | some v=>exact B_ v n n
theorem A5(i j:Nat):Builtin.Slice.slicePlaces (i:Int) (j:Int) 1=j - i:=by
 unfold Builtin.Slice.slicePlaces
 have h1:(1:Int) > 0:=by omega
 simp only[h1,if_true,Int.ediv_one]
 split<;>omega
theorem xY{v:Mg}{o:Me Int}{Q:Me Int->Mi->Prop}(p:IsPart v o)(h:Q o s):wpAny (model prog w) A (Builtin.Slice.slicePartIndex v) Q E s:=by
 cases p with
 | none=>exact slicePart_none h
 | int i t=>exact slicePart_int h
theorem sliceApplied_gen{sl:Ml}{vl vu:Mg}{lo hi:Me Int}{n:Nat}{Q:Int×Int×Nat->Mi->Prop}(hs:s.heap.IsSliceOf sl vl vu .none)(pl:IsPart vl lo)(pu:IsPart vu hi)
  (h:Q (((sIx n 0 lo:Nat):Int),1,sIx n n hi - sIx n 0 lo) s):wpAny (model prog w) A (Builtin.Slice.sliceApplied (.ref sl) (pure (n:Int))) Q E s:=by
 obtain⟨os,hos,hcs,hds⟩:=id hs
 unfold Builtin.Slice.sliceApplied Builtin.Slice.sliceFields
 refine Mf (Mf (wpAny_field hos hds (x:=vl) rfl (Mf (wpAny_field hos hds (x:=vu) rfl (Mf (wpAny_field hos hds (x:=.none) rfl (Mm ?_)))))))
 refine Mf (slicePart_none ?_)
 show wpAny _ _ (if ((1:Int)==0)=true then _ else _) _ _ s
 rw[Mx (by decide)]
 refine Mf (xY pl (Mf (xY pu (Mf (Mm ?_)))))
 show wpAny _ _ (match Builtin.Slice.sliceAdjust lo hi 1 (n:Int) with | (lo,hi)=>pure (lo,(1:Int),Builtin.Slice.slicePlaces lo hi 1)) _ _ s
 rw[A9 lo hi n]
 show wpAny _ _ (pure (((sIx n 0 lo:Nat):Int),(1:Int),Builtin.Slice.slicePlaces ((sIx n 0 lo:Nat):Int) ((sIx n n hi:Nat):Int) 1)) _ _ s
 rw[A5]
 exact Mm h
theorem DX(xs:Array Mg)(i k:Nat):((List.range k).filterMap fun (m:Nat)=>xs[((i:Int)+(m:Int)*1).toNat]?).toArray=((xs.toList.drop i).take k).toArray:=by
 have e:(fun (m:Nat)=>xs[((i:Int)+(m:Int)*1).toNat]?)=fun m=>xs[i+m]?:=by
  funext m
  have:((i:Int)+(m:Int)*1).toNat=i+m:=by omega
  rw[this]
 rw[e]
 have:=pick_run xs i k
 rw[List.filterMap_map] at this
 have e2:((fun x=>xs[x]?) ∘ fun x=>i+x)=fun m=>xs[i+m]?:=rfl
 rw[e2] at this
 rw[this]
theorem getItem_tuple_cut{t sl:Ml}{items:Array Mg}{vl vu:Mg}{lo hi:Me Int}{Q:Mg->Mi->Prop}(ht:IsTup s.heap t items)(hs:s.heap.IsSliceOf sl vl vu .none)(pl:IsPart vl lo)(pu:IsPart vu hi)
  (hw:¬ (sIx items.size 0 lo=0/\sIx items.size items.size hi=items.size))
  (h:Q (.ref s.heap.objs.size) {s with heap:=s.heap.push {cls:=.type "tuple",data:=.seq ((items.toList.drop (sIx items.size 0 lo)).take (sIx items.size items.size hi - sIx items.size 0 lo)).toArray} })
  (hsz:items.size<=sizeLine):wpAny (model prog w) A (getItem (.ref t) (.ref sl)) Q E s:=by
 have htake:sizeOk (.seq ((items.toList.drop (sIx items.size 0 lo)).take (sIx items.size items.size hi - sIx items.size 0 lo)).toArray):=by
  show((items.toList.drop (sIx items.size 0 lo)).take (sIx items.size items.size hi - sIx items.size 0 lo)).toArray.size<=sizeLine
  rw[Mz,NB,List.length_drop,M1]
  omega
 have hj:sIx items.size items.size hi<=items.size:=GI _ _ (Mw _) hi
 obtain⟨os,hos,hcs,hds⟩:=id hs
 have hTs:s.TypeIs (.ref sl) "slice":=⟨os,hos,hcs⟩
 unfold getItem
 try with_reducible refine wpAny_holding ?_
 first | refine Mf (Mm ?_) | skip
 refine Mf (wpAny_sequenceKey ht.typeIs (by decide) ?_)
 refine Mf (wpAny_callSpecial?_slot (name:=Str.ofString "__getitem__") ht.typeIs PyProof.Rows.slot_tuple_getitem
  (wpAny_call_entry PyProof.Rows.slot_tuple_getitem ht.typeIs entry_tuple_getitem ?_ (args_tuple_getitem _ _)))
 show wpAny _ _ (Builtin.Tuple.tupleItemsOf (.ref t) >>= _) _ _ s
 refine Mf (tupleItemsOf_ ht ?_)
 refine Mf (wpAny_typeOf hTs ?_)
 rw[Mo (by decide)]
 refine Mf (sliceApplied_gen hs pl pu ?_)
 have hno:¬ ((((sIx items.size 0 lo:Nat):Int)==0&&(1:Int)==1&&(sIx items.size items.size hi - sIx items.size 0 lo)==items.size)=true):=by
  intro q
  rw[Mp,Mp] at q
  have q1:((sIx items.size 0 lo:Nat):Int)=0:=NF q.1.1
  have q2:sIx items.size items.size hi - sIx items.size 0 lo=items.size:=NF q.2
  exact hw ⟨by omega,by omega⟩
 show wpAny _ _ (if (((sIx items.size 0 lo:Nat):Int)==0&&(1:Int)==1&&(sIx items.size items.size hi - sIx items.size 0 lo)==items.size)=true then _ else _) _ _ s
 rw[Mx hno,DX]
 first
  | exact Mf (m:=Builtin.Tuple.tupleExact _) (Nf (Mm ⟨_,rfl,Mm h⟩) htake)
  | exact Mf (m:=Builtin.Tuple.tupleExact _) (Nf (Mf (Mm (Mm ⟨_,rfl,Mm h⟩))) htake)
  | exact Mf (Mf (m:=Builtin.Tuple.tupleExact _) (Nf (Mm (Mm ⟨_,rfl,Mm h⟩)) htake))
  | exact Mf (Mf (m:=Builtin.Tuple.tupleExact _) (Nf (Mm ⟨_,rfl,Mm h⟩) htake))
end
end HT
namespace L2
open PySem PySem.Spec PyProof.Rows
abbrev TO:=St->Hp->(Me Int->Hp->Prop)->Prop
def PO(X:Cx)(e:Me MJ)(t:TO):Prop:=
 ∀(pins:List (Ml×Obj)) (s:Mi) (σ:St) (H:Hp) (Q:Me Int->Hp->Prop),Inv X pins σ H s->t σ H Q ->
  wpAny (model X.prog X.w) X.A (evalPart e X.env) (fun u s'=>∃o H',Inv X pins σ H' s'/\IsPart u o/\Q o H') X.xe s
def EX:TO:=fun _ H Q=>Q none H
def Ji(t:TE):TO:=fun σ H Q=>t σ H fun x H1=>∃i,x=.int i/\Q (some i) H1
section
variable{X:Cx}{e:MJ}{te:TE}{lo hi:Me MJ}{tl th:TO}{pos p2:Pos}
theorem EW:PO X none EX:=by
 intro pins s σ H Q I h
 rw[evalPart_none]
 exact Mm ⟨none,H,I,.none,h⟩
theorem FE(h:PE X e te):PO X (some e) (Ji te):=by
 intro pins s σ H Q I hw
 rw[evalPart_some]
 refine qW (h pins s σ H _ I hw) fun u s1 ⟨x,H1,I1,r1,q1⟩=>?_
 obtain⟨i,rfl,q⟩:=q1
 obtain⟨t,rfl⟩:=r1
 exact⟨some i,H1,I1,.int i t,q⟩
def Gv(X:Cx)(r:V->Me Int->Me Int->Hp->VK->Prop):Prop:=
 ∀(pins:List (Ml×Obj)) (s:Mi) (σ:St) (H:Hp) (x:V) (v vl vu:Mg) (lo hi:Me Int) (sl:Ml) (Q:VK),Inv X pins σ H s->RelV x v->s.heap.IsSliceOf sl vl vu .none->IsPart vl lo->IsPart vu hi->r x lo hi H Q ->
  ∃T id,typeLookup (.type T) "__getitem__" = pure (some (.builtin id))/\s.TypeIs v T/\wpAny (model X.prog X.w) X.A (getItem v (.ref sl)) (EP X pins σ Q) X.xe s
theorem Gv.or{r r':V->Me Int->Me Int->Hp->VK->Prop}(h:Gv X r)(h':Gv X r'):Gv X (fun x lo hi H Q=>r x lo hi H Q\/r' x lo hi H Q):=by
 intro pins s σ H x v vl vu lo hi sl Q I rx hs pl pu q
 rcases q with q | q
 ·exact h pins s σ H x v vl vu lo hi sl Q I rx hs pl pu q
 ·exact h' pins s σ H x v vl vu lo hi sl Q I rx hs pl pu q
def LL(r:V->Me Int->Me Int->Hp->VK->Prop)(te:TE)(tl th:TO):TE:=fun σ H Q=>te σ H fun x H1=>tl σ H1 fun l H2=>th σ H2 fun u H3=>r x l u H3 Q
theorem oo{r:V->Me Int->Me Int->Hp->VK->Prop}(hr:Gv X r)(he:PE X e te)(hl:PO X lo tl)(hu:PO X hi th):PE X (.Subscript e (.Slice lo hi none p2) pos) (LL r te tl th):=by
 intro pins s σ H Q I h
 refine Subscript_ (qW (he pins s σ H _ I h) fun v s1 ⟨x,H1,I1,r1,q1⟩=>?_)
 refine wpAny_Slice (qW (hl pins s1 σ H1 _ I1 q1) fun vl s2 ⟨l,H2,I2,pl,q2⟩=>qW (hu pins s2 σ H2 _ I2 q2) fun vu s3 ⟨u,H3,I3,pu,q3⟩=>?_)
 rw[evalPart_none]
 refine Mm ?_
 have I4:Inv X pins σ H3 {s3 with heap:=s3.heap.push {cls:=.type "slice",data:=.fields #[vl,vu,.none]} }:=I3.kept (t':=s3.toks) fun b ob q=>Mh _ q
 obtain⟨T,id,hT,ht,hg⟩:=hr pins {s3 with heap:=s3.heap.push {cls:=.type "slice",data:=.fields #[vl,vu,.none]} } σ H3 x v vl vu l u s3.heap.objs.size Q I4 r1 (Heap.IsSliceOf.new ..) pl pu q3
 show wpAny (model X.prog X.w) X.A (subscriptTail e (.Slice lo hi none p2) v (.ref s3.heap.objs.size)) (EP X pins σ Q) X.xe {s3 with heap:=s3.heap.push {cls:=.type "slice",data:=.fields #[vl,vu,.none]} }
 exact tail_any (ops:=[.ref s3.heap.objs.size,v]) ht hT hg (by with_unfolding_all rfl)
def xj(xs:List V)(lo hi:Me Int):List V:=(xs.drop (HT.sIx xs.length 0 lo)).take (HT.sIx xs.length xs.length hi - HT.sIx xs.length 0 lo)
theorem w8(xs:List V)(lo hi:Me Int):(xj xs lo hi).length<=xs.length:=by
 unfold xj
 rw[NB,List.length_drop]
 omega
def K2(K:Mj):V->Me Int->Me Int->Hp->VK->Prop:=fun x lo hi H Q=>∃a xs,x=.ref a/\uT K H a xs /\
 ¬ (HT.sIx xs.length 0 lo=0/\HT.sIx xs.length xs.length hi=xs.length)/\∀p,H p=none->Q (.ref p) (upd H p (.tup (xj xs lo hi)))
theorem G2:Gv X (K2 X.K):=by
 intro pins s σ H x v vl vu lo hi sl Q I rx hs pl pu h
 obtain⟨a,xs,rfl,hx,hw,q⟩:=h
 cases rx
 obtain⟨its,r,ht,hz⟩:=I.tuple hx
 have hlen:its.toArray.size=xs.length:=by rw[Mz];exact r.length.symm
 refine⟨"tuple",_,PyProof.Rows.slot_tuple_getitem.lookup,ht.typeIs,?_⟩
 refine HT.getItem_tuple_cut ht hs pl pu (by rw[hlen];exact hw) ?_ (by rw[hlen];exact hz)
 rw[hlen]
 refine⟨.ref s.heap.objs.size,_,I.laid (t':=s.toks) (o:=.tup (xj xs lo hi)) (fun b ob q=>Mh _ q) (Mw _) ?_,rfl,q _ (I.hok.fresh (Mw _))⟩
 exact⟨MN (w8 xs lo hi) hz,_,(r.drop (HT.sIx xs.length 0 lo)).take (HT.sIx xs.length xs.length hi - HT.sIx xs.length 0 lo),uk.new _ _⟩
def IE(K:Mj):R2:=fun x y H Q=>∃a b xs ys,x=.ref a/\y=.ref b/\uT K H a xs/\uT K H b ys/\xs ≠ []/\xs.length+ys.length<=sizeLine /\
 (ys=[]->Q (.ref a) H)/\(ys ≠ []->∀p,H p=none->Q (.ref p) (upd H p (.tup (xs++ys))))
theorem m8.nil_iff{xs:List V}{us:List Mg}(r:m8 xs us):us=[]↔xs=[]:=by
 cases r with
 | nil=>simp
 | cons _ _=>simp
theorem FM:OpR X (binaryOp .Add) (IE X.K):=by
 intro pins s σ H x y v u Q I rx ry h
 obtain⟨a,b,xs,ys,rfl,rfl,ha,hb,hx,hz,q1,q2⟩:=h
 cases rx
 cases ry
 obtain⟨its,r1,p1,_⟩:=I.tuple ha
 obtain⟨its2,r2,p2,_⟩:=I.tuple hb
 refine HT.cat_tup p1 p2 (fun z=>hx (r1.nil_iff.mp z)) (fun z=>⟨.ref a,H,I,rfl,q1 (r2.nil_iff.mp z)⟩) (fun z=>?_) (by rw[<- r1.length,<- r2.length];exact hz)
 refine⟨.ref s.heap.objs.size,_,I.laid (t':=s.toks) (o:=.tup (xs++ys)) (fun b ob q=>Mh _ q) (Mw _) ?_,rfl,q2 (fun w=>z (r2.nil_iff.mpr w)) _ (I.hok.fresh (Mw _))⟩
 exact⟨by rw[MP];exact hz,_,r1.append r2,uk.new _ _⟩
end
end L2
namespace L2
open PySem PySem.Spec PyProof.Rows
noncomputable def ID(n:Nat)(i:Int):Me Nat:=if 0<=i then (if i<n then some i.toNat else none) else if -(n:Int)<=i then some (i+n).toNat else none
def Hy{α:Type}(xs:List α)(i:Int):Me α:=(ID xs.length i).bind fun j=>xs[j]?
theorem EQ{n:Nat}{i:Int}{j:Nat}(h:ID n i=some j):seqIndex? i n=some j/\j<n /\ -(n:Int)<=i/\i<n:=by
 unfold ID at h
 by_cases h0:0<=i
 ·rw[Mo h0] at h
  by_cases h1:i<n
  ·rw[Mo h1] at h
   have e:i.toNat=j:=ME h
   exact⟨by rw[seqIndex_of h0 h1,e],by omega,by omega,h1⟩
  ·rw[Mx h1] at h;cases h
 ·rw[Mx h0] at h
  by_cases h1 : -(n:Int)<=i
  ·rw[Mo h1] at h
   have e:(i+n).toNat=j:=ME h
   exact⟨by rw[seqIndex_neg (by omega) h1,e],by omega,h1,by omega⟩
  ·rw[Mx h1] at h;cases h
theorem y7{α:Type}{xs:List α}{i:Int}{v:α}(h:Hy xs i=some v):∃j,seqIndex? i xs.length=some j/\xs[j]?=some v/\j<xs.length /\ -(xs.length:Int)<=i/\i<xs.length:=by
 unfold Hy at h
 cases e:ID xs.length i with
 | none=>rw[e] at h;cases h
 | some j =>
  rw[e] at h
  obtain⟨h1,h2,h3,h4⟩:=EQ e
  exact⟨j,h1,h,h2,h3,h4⟩
def zy(b:MJ):Prop:=∀o i,subscripted b false o i=operate [o,i] (getItem o i)
def IxR(X:Cx)(r:R2):Prop:=
 ∀(value slice:MJ) (pins:List (Ml×Obj)) (s:Mi) (σ:St) (H:Hp) (x y:V) (v u:Mg) (Q:VK),Inv X pins σ H s->RelV x v->RelV y u->r x y H Q ->
  subscripted slice false v u=operate [v,u] (getItem v u)->wpAny (model X.prog X.w) X.A (subscriptTail value slice v u) (EP X pins σ Q) X.xe s
def FC(X:Cx)(id:String)(r:V->List V->Hp->VK->Prop):Prop:=
 ∀(pins:List (Ml×Obj)) (s:Mi) (σ:St) (H:Hp) (x:V) (xs:List V) (v:Mg) (us:List Mg) (Q:VK),Inv X pins σ H s->RelV x v->m8 xs us->r x xs H Q ->
  wpAny (model X.prog X.w) X.A (call (.builtin id) (v::us)) (EP X pins σ Q) X.xe s
section
variable{X:Cx}{a b:MJ}{ta tb:TE}{pos:Pos}
theorem IxR.or{r r':R2}(h:IxR X r)(h':IxR X r'):IxR X (fun x y H Q=>r x y H Q\/r' x y H Q):=by
 intro value slice pins s σ H x y v u Q I rx ry q hs
 rcases q with q | q
 ·exact h value slice pins s σ H x y v u Q I rx ry q hs
 ·exact h' value slice pins s σ H x y v u Q I rx ry q hs
theorem FC.or{id:String}{r r':V->List V->Hp->VK->Prop}(h:FC X id r)(h':FC X id r'):FC X id (fun x xs H Q=>r x xs H Q\/r' x xs H Q):=by
 intro pins s σ H x xs v us Q I rx rs q
 rcases q with q | q
 ·exact h pins s σ H x xs v us Q I rx rs q
 ·exact h' pins s σ H x xs v us Q I rx rs q
theorem pH{r:R2}(hr:IxR X r)(ha:PE X a ta)(hb:PE X b tb)(hs:zy b):PE X (.Subscript a b pos) (JW r ta tb):=by
 intro pins s σ H Q I h
 exact Subscript_ (G6 ha hb I h fun v u s2 x y H2 I2 rx ry q=>hr a b pins s2 σ H2 x y v u Q I2 rx ry q (hs _ _))
def Lf(K:Mj):R2:=fun x y H Q=>∃p xs i v,x=.ref p/\y=.int i/\ua K H p xs/\Hy xs i=some v/\Q v H
def Kr(K:Mj):R2:=fun x y H Q=>∃p xs i v,x=.ref p/\y=.int i/\uT K H p xs/\Hy xs i=some v/\Q v H
def J7:R2:=fun x y H Q=>∃z i c,x=.str z/\y=.int i/\z.length<=sizeLine/\Hy z.cps.toList i=some c/\Q (.str ⟨#[c]⟩) H
theorem E3:IxR X (Lf X.K):=by
 intro value slice pins s σ H x y v u Q I rx ry h hs
 obtain⟨p,xs,i,z,rfl,rfl,hq,he,q⟩:=h
 cases rx
 obtain⟨t,rfl⟩:=ry
 obtain⟨its,r,pl,hz⟩:=I.list hq
 obtain⟨j,h1,h2,h3,h4,h5⟩:=y7 he
 obtain⟨w,ew,rw'⟩:=r.get h2
 have hl:=r.length
 have hn:=xO
 have fin:EP X pins σ Q w s:=⟨z,H,I,rw',q⟩
 by_cases h0:0<=i
 ·have hj:i.toNat=j:=by
   rw[seqIndex_of h0 h5] at h1
   exact ME h1
  exact item_listR pl.isList h0 (by omega) (by rw[hj];simpa using ew) fin hs
 ·have hj:(i+(its.toArray.size:Int)).toNat=j:=by
   rw[seqIndex_neg (by omega) h4] at h1
   rw[Mz,<- hl]
   exact ME h1
  exact subscriptTail_builtinR (x:=w) pl.isList.typeIs slot_list_getitem.lookup
   (wpAny_getItem_list_neg (Q:=fun r s'=>r=w/\EP X pins σ Q r s') pl.isList (by omega) (by rw[Mz]<;>omega) (by omega) (by rw[hj];simpa using ew) ⟨rfl,fin⟩) hs
theorem HI:IxR X (Kr X.K):=by
 intro value slice pins s σ H x y v u Q I rx ry h hs
 obtain⟨p,xs,i,z,rfl,rfl,hq,he,q⟩:=h
 cases rx
 obtain⟨t,rfl⟩:=ry
 obtain⟨its,r,pl,hz⟩:=I.tuple hq
 obtain⟨j,h1,h2,h3,h4,h5⟩:=y7 he
 obtain⟨w,ew,rw'⟩:=r.get h2
 have hl:=r.length
 have hn:=xO
 have fin:EP X pins σ Q w s:=⟨z,H,I,rw',q⟩
 exact subscriptTail_builtinR (x:=w) pl.typeIs slot_tuple_getitem.lookup
  (getItem_tuple (j:=j) (Q:=fun r s'=>r=w/\EP X pins σ Q r s') pl (by omega) (by omega) (by rw[Mz,<- hl];exact h1) (by simpa using ew) ⟨rfl,fin⟩) hs
theorem GT:IxR X J7:=by
 intro value slice pins s σ H x y v u Q I rx ry h hs
 obtain⟨z,i,c,rfl,rfl,hz,he,q⟩:=h
 obtain⟨t,rfl⟩:=rx
 obtain⟨t',rfl⟩:=ry
 obtain⟨j,h1,h2,h3,h4,h5⟩:=y7 he
 have hl:z.cps.toList.length=z.length:=by simp[Str.length]
 rw[hl] at h1 h4 h5
 have hn:=xO
 exact tail_any (typeIs_str s z t) slot_str_getitem.lookup (getItem_str (c:=c) (by
  have e1:decide (i < -(2 ^ 63:Int))=false:=MZ (by omega)
  have e2:decide (i ≥ 2 ^ 63)=false:=MZ (by omega)
  rw[e1,e2,Bool.or_false]) (by rw[h1];simpa using h2) ⟨.str ⟨#[c]⟩,H,I.tok _,⟨_,rfl⟩,q⟩) hs
theorem Inv.lst{pins:List (Ml×Obj)}{σ:St}{H:Hp}{s:Mi}{p:Ml}{xs:List V}(I:Inv X pins σ H s)(h:H p=some (.lst xs)) :
  ∃(its:List Mg) (n:Nat),m8 xs its/\s.heap.get? p=some {cls:=.type "list",data:=.seq its.toArray n}/\xs.length<=sizeLine:=by
 obtain⟨z,its,n,r,e⟩:=I.hok p _ h
 exact⟨its,n,r,e,z⟩
theorem zg(lo hi:Me Int)(n:Nat):(sliceBounds lo hi none n).1=((HT.sIx n 0 lo:Nat):Int)/\(sliceBounds lo hi none n).2.1=((HT.sIx n n hi:Nat):Int)/\(sliceBounds lo hi none n).2.2=1:=by
 refine⟨?_,?_,rfl⟩
 ·cases lo with
  | none=>simp[sliceBounds,HT.sIx]
  | some i =>
   simp only[sliceBounds,HT.sIx,Option.getD_none,show(1:Int) > 0 by decide,if_true]
   by_cases h:i<0
   ·simp only[h,if_true]<;>omega
   ·simp only[h,if_false]<;>omega
 ·cases hi with
  | none=>simp[sliceBounds,HT.sIx]
  | some i =>
   simp only[sliceBounds,HT.sIx,Option.getD_none,show(1:Int) > 0 by decide,if_true]
   by_cases h:i<0
   ·simp only[h,if_true]<;>omega
   ·simp only[h,if_false]<;>omega
theorem yz(its:List Mg)(lo hi:Me Int):slicePick its.toArray lo hi none=((its.drop (HT.sIx its.length 0 lo)).take (HT.sIx its.length its.length hi - HT.sIx its.length 0 lo)).toArray:=by
 obtain⟨h1,h2,h3⟩:=zg lo hi its.toArray.size
 unfold slicePick
 rw[h1,h2,h3]
 simp only[sliceRange_one,pick_run,Mz]<;>rfl
def KU(K:Mj):V->Me Int->Me Int->Hp->VK->Prop:=fun x lo hi H Q=>∃a xs,x=.ref a/\ua K H a xs/\∀p,H p=none->Q (.ref p) (upd H p (.lst (xj xs lo hi)))
theorem FO:Gv X (KU X.K):=by
 intro pins s σ H x v vl vu lo hi sl Q I rx hs pl pu h
 obtain⟨a,xs,rfl,hx,q⟩:=h
 cases rx
 obtain⟨its,r,ht,hz⟩:=I.list hx
 have hlen:=r.length
 refine⟨"list",_,slot_list_getitem.lookup,ht.isList.typeIs,?_⟩
 refine wpAny_getItem_list_slice ht.isList hs pl pu .none (by simp) ?_ (by rw[Mz]<;>omega)
 rw[yz,<- hlen]
 refine⟨.ref s.heap.objs.size,_,I.laid (t':=s.toks) (o:=.lst (xj xs lo hi)) (fun b ob q=>Mh _ q) (Mw _) ?_,rfl,q _ (I.hok.fresh (Mw _))⟩
 exact⟨MN (w8 xs lo hi) hz,_,0,(r.drop (HT.sIx xs.length 0 lo)).take (HT.sIx xs.length xs.length hi - HT.sIx xs.length 0 lo),Mq _ rfl⟩
theorem zK:CallR X (.builtin "len") (fun xs H Q=>∃p ys,xs=[.ref p]/\(ua X.K H p ys\/uT X.K H p ys)/\Q (.int ys.length) H):=by
 intro pins s σ H xs us Q I r h
 obtain⟨p,ys,rfl,hq,q⟩:=h
 obtain⟨u,rfl,rx⟩:=vals1 r
 cases rx
 have hn:=xO
 rcases hq with hq | hq
 ·obtain⟨its,r',pl,hz⟩:=I.list hq
  have hlen:=r'.length
  exact Calls.call_len_list pl.isList (by simp only[Mz]<;>omega) ⟨.int ys.length,H,I.tok _,⟨s.toks+1,by rw[Mz,hlen]⟩,q⟩
 ·obtain⟨its,r',pl,hz⟩:=I.tuple hq
  have hlen:=r'.length
  exact len_tuple pl (by simp only[Mz]<;>omega) ⟨.int ys.length,H,I.tok _,⟨s.toks+1,by rw[Mz,hlen]⟩,q⟩
theorem CallR.or{f:Mg}{r r':List V->Hp->VK->Prop}(h:CallR X f r)(h':CallR X f r'):CallR X f (fun xs H Q=>r xs H Q\/r' xs H Q):=by
 intro pins s σ H xs us Q I rs q
 rcases q with q | q
 ·exact h pins s σ H xs us Q I rs q
 ·exact h' pins s σ H xs us Q I rs q
theorem yD:CallR X (.type "tuple") (fun xs H Q=>∃p ys,xs=[.ref p]/\((ua X.K H p ys/\∀l,H l=none->Q (.ref l) (upd H l (.tup ys)))\/(uT X.K H p ys/\Q (.ref p) H))):=by
 intro pins s σ H xs us Q I r h
 obtain⟨p,ys,rfl,h⟩:=h
 obtain⟨u,rfl,rx⟩:=vals1 r
 cases rx
 rcases h with ⟨hq,q⟩ | ⟨hq,q⟩
 ·obtain⟨its,r',pl,hz⟩:=I.list hq
  have hlen:=r'.length
  refine call_tuple_list pl.isList (fun h' kp=>?_) (by simp only[Mz]<;>omega)
  have I1:Inv X pins σ H {s with heap:=h' }:=I.kept (t':=s.toks) kp
  have I2:Inv X pins σ (upd H h'.objs.size (.tup ys)) {s with heap:=h'.push {cls:=.type "tuple",data:=.seq its.toArray} }:=
   I1.laid (t':=s.toks) (fun b o e=>Mh _ e) (Mw _) (show tY X.prog X.w _ _ _ (.tup ys) from⟨hz,its,r',uk.new _ _⟩)
  exact⟨.ref h'.objs.size,_,I2,rfl,q _ (I1.hok.fresh (Mw _))⟩
 ·obtain⟨its,r',pl,hz⟩:=I.tuple hq
  exact call_tuple_same pl ⟨.ref p,H,I,rfl,q⟩
def Kv(K:Mj)(T:String)(x:V)(H:Hp):Prop:=match x with
 | .str _=>T = "str"
 | .int _=>T = "int"
 | .ref p=>(T = "list" /\ ∃xs,ua K H p xs)\/(T = "tuple" /\ ∃o,K.lookup p=some o/\o.cls=.type "tuple" /\ o.dict=none) \/
   (T = "dict" /\ ((∃kvs,H p=some (.dK kvs))\/∃kvs,H p=some (.dT kvs)))\/(T = "set" /\ ∃S n,H p=some (.set S n))
 | _=>False
theorem DE{pins:List (Ml×Obj)}{σ:St}{H:Hp}{s:Mi}{T:String}{x:V}{v:Mg}(I:Inv X pins σ H s)(r:RelV x v)(ty:Kv X.K T x H) :
  s.TypeIs v T/\∀a,v=.ref a->∃ob,s.heap.get? a=some ob/\ob.dict=none:=by
 cases x with
 | str z =>
  obtain⟨t,rfl⟩:=r
  cases (show T = "str" from ty)
  exact⟨typeIs_str s z t,fun _ e=>nomatch e⟩
 | int i =>
  obtain⟨t,rfl⟩:=r
  cases (show T = "int" from ty)
  exact⟨typeIs_int s i t,fun _ e=>nomatch e⟩
 | ref p =>
  cases r
  rcases ty with ⟨rfl,xs,hq⟩ | ⟨rfl,o,hk,hc,hd⟩ | ⟨rfl,hk⟩ | ⟨rfl,S,n,hk⟩
  ·obtain⟨its,_,pl,_⟩:=I.list hq
   refine⟨pl.isList.typeIs,fun a e=>?_⟩
   cases e
   obtain⟨o,n,e,c,hd,_⟩:=pl
   exact⟨o,e,hd⟩
  ·refine⟨⟨o,I.kIn p o hk,hc⟩,fun a e=>?_⟩
   cases e
   exact⟨o,I.kIn _ o hk,hd⟩
  ·have z:∃o,s.heap.get? p=some o/\o.ExactDict:=by
    rcases hk with ⟨kvs,hk⟩ | ⟨kvs,hk⟩
    ·obtain⟨_,_,_,_,o,_,_,e,ex,_⟩:=I.hok p _ hk
     exact⟨o,e,ex⟩
    ·obtain⟨_,_,_,_,o,_,_,e,ex,_⟩:=I.hok p _ hk
     exact⟨o,e,ex⟩
   obtain⟨o,e,ex⟩:=z
   refine⟨⟨o,e,ex.1⟩,fun a e2=>?_⟩
   cases e2
   exact⟨o,e,ex.2.1⟩
  ·obtain⟨o,_,_,_,e,ex,_⟩:=I.hok p _ hk
   refine⟨⟨o,e,ex.1⟩,fun a e2=>?_⟩
   cases e2
   exact⟨o,e,ex.2.1⟩
 | _=>exact False.elim ty
def Kh(K:Mj)(T:String)(r:V->List V->Hp->VK->Prop)(to:TE):TE:=fun σ H Q=>to σ H fun x H1=>Kv K T x H1/\r x [] H1 Q
def LC(K:Mj)(T:String)(r:V->List V->Hp->VK->Prop)(to:TE)(t:TA):TE:=fun σ H Q=>to σ H fun x H1=>Kv K T x H1/\t σ H1 fun xs H2=>r x xs H2 Q
variable{o e:MJ}{es:List MJ}{to:TE}{t:TA}{name:Str}{apos cpos:Pos}{T id:String}{r:V->List V->Hp->VK->Prop}
theorem qb(pa:PlainAttrs T)(slot:Slot T name id)(hty:typeOf (.builtin id)=pure (.type "method_descriptor"))(hm:FC X id r)(ho:PE X o to)
  (hbase:attributeBase o name X.env (eval o X.env)=eval o X.env:=by rfl) (hline:(apos.endLine==cpos.line)=true:=by rfl):PE X (.Call (.Attribute o name apos) [] [] cpos) (Kh X.K T r to):=by
 intro pins s σ H Q I h
 refine wpAny_Call_method0_late hbase hline (qW (ho pins s σ H _ I h) fun v s1 ⟨x,H1,I1,r1,ty,q1⟩=>?_)
 obtain⟨h1,h2⟩:=DE I1 r1 ty
 exact⟨T,id,pa,slot,hty,h1,h2,Calls.callWith_builtin rfl (PySem.evalArgs_none (hm pins s1 σ H1 x [] v [] Q I1 r1 .nil q1))⟩
theorem qy (pa:PlainAttrs T) (slot:Slot T name id) (hty:typeOf (.builtin id)=pure (.type "method_descriptor")) (hm:FC X id r) (ho:PE X o to) (ha:PA X (e::es) t)
    (hbase:attributeBase o name X.env (eval o X.env)=eval o X.env:=by rfl)
    (hfew:((backTo cpos (starEach (e::es) X.env)).all (fun x=>!x.1)&&(backToKw cpos (keywordEach [] X.env)).all (fun x=>x.1.isSome)
      && decide ((e::es).length+([]:List Keyword).length+(if ([]:List Keyword).isEmpty then 0 else 1)<30))=true:=by rfl)
    (hline:(apos.endLine==cpos.line)=true:=by rfl) (hs:starEach (e::es) X.env=(false,eval e X.env)::starEach es X.env:=by rfl) (hplain:(backTo cpos (starEach es X.env)).any (·.1)=false:=by rfl) :
    PE X (.Call (.Attribute o name apos) (e::es) [] cpos) (LC X.K T r to t):=by
  intro pins s σ H Q I h
  refine wpAny_Call_method_late hbase hfew hline rfl (qW (ho pins s σ H _ I h) fun v s1 ⟨x,H1,I1,r1,ty,q1⟩=>?_)
  obtain⟨h1,h2⟩:=DE I1 r1 ty
  refine⟨T,id,pa,slot,hty,h1,h2,?_⟩
  have hA:=ha cpos pins s1 σ H1 _ I1 q1
  rw[hs] at hA ⊢
  refine Calls.callWith_builtin (by show(false||(backTo cpos (starEach es X.env)).any (·.1))=false;rw[hplain]<;>rfl) (Calls.evalArgs_plain ?_)
  exact qW hA fun us s2 ⟨vs,H2,I2,r2,q2⟩=>hm pins s2 σ H2 x vs v us Q I2 r1 r2 q2
/- xs.append(e),list.index on a module's tuple .. are FC facts of 06m -/
end
end L2
namespace L2
open PySem PySem.Spec PyProof.Rows
def KI(X:Cx)(id:String)(r:V->List V->Hp->VK->Prop):Prop:=
 ∀(pins:List (Ml×Obj)) (s:Mi) (σ:St) (H:Hp) (x:V) (xs:List V) (v:Mg) (us:List Mg) (Q:VK),Inv X pins σ H s->RelV x v->m8 xs us->r x xs H Q ->
  wpAny (model X.prog X.w) X.A (call (.builtin id) (v::us)) (EP X pins σ Q) X.xe s
theorem m8.one:∀{x:V} {us:List Mg},m8 [x] us->∃u,us=[u]/\RelV x u
 | _,_,h=>by cases h with | cons r t=>cases t;exact⟨_,rfl,r⟩
theorem m8.two:∀{x y:V} {us:List Mg},m8 [x,y] us->∃u v,us=[u,v]/\RelV x u/\RelV y v
 | _,_,_,h=>by cases h with | cons r t=>cases t with | cons q t=>cases t;exact⟨_,_,rfl,r,q⟩
theorem m8.zero:∀{us:List Mg},m8 [] us->us=[]
 | _,.nil=>rfl
theorem m8.dropLast{xs:List V}{us:List Mg}(h:m8 xs us):m8 xs.dropLast us.dropLast:=by
 induction h with
 | nil=>exact .nil
 | cons r t ih =>
  cases t with
  | nil=>exact .nil
  | cons q t'=>exact .cons r ih
theorem m8.eraseIdx:∀{xs:List V} {us:List Mg} (i:Nat),m8 xs us->m8 (xs.eraseIdx i) (us.eraseIdx i)
 | _,_,_,.nil=>.nil
 | _,_,0,.cons _ t=>t
 | _,_,i+1,.cons r t=>.cons r (m8.eraseIdx i t)
section
variable{X:Cx}{pins:List (Ml×Obj)}{σ:St}{H:Hp}{s:Mi}{l b:Ml}{xs ys zs:List V}
theorem Inv.lset{its its':List Mg}{n:Nat}{f:Array Mg->Array Mg}{t':Nat}(I:Inv X pins σ H s)(hH:H l=some (.lst xs))
  (e:s.heap.get? l=some {cls:=.type "list",data:=.seq its.toArray n}) (hf:f its.toArray=its'.toArray) (hv:m8 ys its') (hz:ys.length<=sizeLine) :
  Inv X pins σ (upd H l (.lst ys)) {s with heap:=s.heap.update l (Obj.mapSeq f),toks:=t' }:=by
 have q:=PySem.IsL.update e f
 rw[hf] at q
 refine I.write (x:=l) (e:=l) (by rw[hH];exact trivial) (.inl rfl) (fun b' u hb hu=>(MT s.heap (Obj.mapSeq f) (Ne.symm hb)).trans hu) ⟨_,q⟩ ?_
 exact⟨hz,its',_,hv,q⟩
theorem Inv.lnew{its:List Mg}{t':Nat}(I:Inv X pins σ H s)(hv:m8 ys its)(hz:ys.length<=sizeLine) :
  Inv X pins σ (upd H s.heap.objs.size (.lst ys)) {s with heap:=s.heap.push {cls:=.type "list",data:=.seq its.toArray},toks:=t' }:=
 I.laid (fun _ _ q=>Mh _ q) (Mw _) ⟨hz,its,0,hv,Mq _ rfl⟩
theorem Inv.fresh(I:Inv X pins σ H s):H s.heap.objs.size=none:=I.hok.fresh (Mw _)
theorem Inv.lstM(I:Inv X pins σ H s)(hH:H l=some (.lst xs)):xs.length<=sizeLine/\∃(its:List Mg) (n:Nat),m8 xs its/\xs.length=its.length/\s.heap.get? l=some {cls:=.type "list",data:=.seq its.toArray n}:=by
 obtain⟨z,its,n,r,e⟩:=I.hok l _ hH
 exact⟨z,its,n,r,r.length,e⟩
theorem D1{n:Nat}(h:n<=sizeLine):Builtin.List.listTooLong n=false:=by
 unfold Builtin.List.listTooLong
 exact MZ (by omega)
end
section
variable{X:Cx}
def FQ:V->List V->Hp->VK->Prop:=fun x vs H Q=>∃l xs y,x=.ref l/\vs=[y]/\H l=some (.lst xs)/\xs.length<sizeLine/\Q .non (upd H l (.lst (xs++[y])))
theorem iX:KI X "list.append" FQ:=by
 intro pins s σ H x vs v us Q I rx rv h
 obtain⟨l,xs,y,rfl,rfl,hH,hz,q⟩:=h
 cases rx
 obtain⟨u,rfl,ru⟩:=rv.one
 obtain⟨z,its,n,r,hl,e⟩:=I.lstM hH
 refine call_meets F.slot_list_append ⟨_,e,rfl⟩ F.entry_list_append (F.args_list_append_2 _ _) (PySem.list_append l its.toArray n u (by rw[Mz];omega)) ⟨e,?_⟩
 refine⟨.non,_,I.lset (its':=its++[u]) hH e (by simp) (r.append (.cons ru .nil)) ?_,rfl,q⟩
 rw[MP,List.length_singleton]
 omega
def Fd:V->List V->Hp->VK->Prop:=fun x vs H Q=>∃l b xs zs,x=.ref l/\vs=[.ref b]/\H l=some (.lst xs)/\H b=some (.lst zs)/\xs.length+zs.length<=sizeLine/\Q .non (upd H l (.lst (xs++zs)))
theorem mM:KI X "list.extend" Fd:=by
 intro pins s σ H x vs v us Q I rx rv h
 obtain⟨l,b,xs,zs,rfl,rfl,hH,hB,hz,q⟩:=h
 cases rx
 obtain⟨u,rfl,ru⟩:=rv.one
 cases ru
 obtain⟨z,its,n,r,hl,e⟩:=I.lstM hH
 obtain⟨z2,its2,n2,r2,hl2,e2⟩:=I.lstM hB
 have hsz:its.toArray.size+its2.toArray.size<=sizeLine:=by rw[Mz,Mz];omega
 have hlong:¬ (!its.toArray.isEmpty&&Builtin.List.listTooLong (its.toArray.size+its2.toArray.size))=true:=by
  rw[D1 hsz,Bool.and_false]
  exact Mt
 refine call_meets F.slot_list_extend ⟨_,e,rfl⟩ F.entry_list_extend (F.args_list_extend_2 _ _)
  (AutoSeq1.list_extend_list_list_0 l its.toArray n b its2.toArray n2 hlong (by rw[Mz];omega) (by omega)) ⟨e,e2,?_⟩
 refine⟨.non,_,I.lset (its':=its++its2) hH e (by simp) (r.append r2) ?_,rfl,q⟩
 rw[MP]
 omega
def Kj:R2:=fun x y H Q=>∃l b xs zs,x=.ref l/\y=.ref b/\H l=some (.lst xs)/\H b=some (.lst zs)/\xs.length+zs.length<=sizeLine/\∀p,H p=none->Q (.ref p) (upd H p (.lst (xs++zs)))
theorem HE:OpR X (binaryOp .Add) Kj:=by
 intro pins s σ H x y v u Q I rx ry h
 obtain⟨l,b,xs,zs,rfl,rfl,hH,hB,hz,q⟩:=h
 cases rx
 cases ry
 obtain⟨z,its,n,r,hl,e⟩:=I.lstM hH
 obtain⟨z2,its2,n2,r2,hl2,e2⟩:=I.lstM hB
 refine PySem.P.add_list e e2 ?_ (by rw[Mz,Mz];omega)
 have ea:its.toArray++its2.toArray=(its++its2).toArray:=by simp
 rw[ea]
 exact⟨.ref _,_,I.lnew (t':=s.toks) (r.append r2) (by rw[MP];omega),rfl,q _ I.fresh⟩
end
section
variable{prog:Mv}{w:MH}{A:MQ}{E:Mg->Mi->Prop}{s:Mi}
set_option maxRecDepth 100000 in
end
section
variable{X:Cx}
end
end L2
namespace Att
open PySem PySem.W PySem.Calls PyProof.Rows
theorem gG{P:Params}{h:MI}:∀(ns:List Int) (vs:List Mg),WellAll P h vs (ns.map WData.int)->IntsAre vs ns:=by
 intro ns
 induction ns with
 | nil =>
  intro vs w
  rw[List.map_nil] at w
  cases w
  exact .nil
 | cons n ns ih =>
  intro vs w
  rw[M9] at w
  cases w with
  | cons a b =>
   cases a
   exact .cons _ _ (ih _ b)
theorem CT{l:OpenLaw}{n:Nat}(hn:l.most=some n){P:Params}{h:MI}{args:List WData}{vals:List Mg}
  (hpre:l.row.toRowW.claim.pre args=true) (hwl:WellAll P h vals args) :
  ∃a vs ns,vals=[Value.ref a]/\args=[WData.list (ns.map WData.int)]/\h.get? a=some {cls:=.type "list",data:=.seq vs.toArray}/\IntsAre vs ns/\ns.length<=n:=by
 have hsh:WShape.hasAll [] args [.list .int]=true:=(pre_splitW hpre).1
 have hc:l.pre.holds [] {args:=args}=true:=(pre_splitW hpre).2
 obtain⟨d,r,rfl,h1,h2⟩:=hasAllW_cons hsh
 obtain rfl:=hasAllW_nil h2
 obtain⟨xs,rfl,h3⟩:=hasW_list h1
 obtain⟨ns,rfl⟩:=items_int h3
 have hlen:ns.length<=n:=by
  unfold OpenLaw.pre at hc
  have h4:(WTm.not (.lt (.lit (.int (n:Int))) (.len (.arg 0)))).holds [] {args:=[.list (ns.map .int)]}=true:=by
   have h4:=(holds_andW hc).1
   rw[hn] at h4
   exact h4
  have h5:=condW_of h4 (w_not (w_lt w_lit (w_len_list (w_arg rfl))))
  rw[Ms] at h5
  refine Nat.le_of_not_lt fun q=>?_
  have q':(n:Int)<((ns.length:Nat):Int):=by omega
  first
   | (rw[Nc q'] at h5;exact MY h5 (by decide))
   | (simp at h5;omega)
 cases hwl with
 | cons w1 w2 =>
  cases w2
  cases w1 with
  | list ho hall=>exact⟨_,_,ns,rfl,rfl,ho,gG ns _ hall,hlen⟩
theorem C4(l:OpenLaw)(args:List WData):l.row.toRowW.claim.post args (.bool true) args=true:=
 postW_of (r:=l.row.toRowW) (X:=(true==true))
  (show WShape.has [] (.bool true) .bool=true by first | rfl | decide | simp[WShape.has,WShape.arms,WShape.armsAll])
  (show(WTm.eq .res (.lit (.bool true))).value [] {args:=args,res:=some (.bool true),after:=args}=some (.bool (true==true)) from w_eq_bool (w_res rfl) w_lit) rfl
theorem attach_call {l:OpenLaw} {n:Nat} {q:Mv} {loose:List Str} {XP:(Str->Me Mg)->MI->Prop} {YP:MH->MI->Prop} {d:DefRec}
    (hn:l.most=some n) (hdf:d.params.defaults=[])
    (call:∀(w:MH) (s₀ s₁:Mi) (mg mb:Str->Me Mg) (fa:Ml) (o:Obj) (pm cd doc:Mg) (a:Ml) (vs:List Mg) (ns:List Int),
      Ground q loose [] XP w s₀ mg mb s₁.heap->YP w s₁.heap ->
      s₁.heap.get? fa=some o->o.data=.func (docDef d.name d.params d.body d.scope pm cd doc)->s₁.heap.CodeRec cd d.name->mg d.name=some (.ref fa) ->
      s₁.heap.get? a=some {cls:=.type "list",data:=.seq vs.toArray}->IntsAre vs ns->ns.length<=n->s₁.gens=#[] ->
      codeAny (model l.prog w) callerA (.call (.ref fa) ⟨[.ref a],[]⟩) (fun r s'=>r=.ok (.ret (.bool true))/\OldK s₁.heap s'.heap/\s'.os=s₁.os/\AllBare s'.gens) s₁) :
    WalkO q loose XP YP l.row.toRowW d [] (fun f vs=>PySem.call f vs):=by
  intro w s₀ s₁ mg mb G Y fa o pm cd doc dV kV ho hd hcd hD hmg hg args vals as hpre hlay hrd hwl hlo
  obtain rfl:dV=.none:=Dflts.none hD hdf
  obtain rfl:kV=.none:=Dflts.noKw hD
  obtain⟨a,vs,ns,rfl,rfl,hobj,hints,hlen⟩:=CT hn hpre hwl
  refine enter_call (codeAny_mono (call w s₀ s₁ mg mb fa o pm cd doc a vs ns G Y ho (fd_plain hd) hcd hmg hobj hints hlen hg) fun r s' hq=>?_)
  obtain⟨rfl,h2,h3,h4⟩:=hq
  exact⟨.inl ⟨.bool true,.bool true,[],rfl,fun _=>rfl,.bool true,C4 l _,fun _=>⟨List.Pairwise.nil,fun _ hm=>(nomatch hm)⟩⟩,h2,h3,h4⟩
section
variable{prog:Mv}{w:MH}{A:MQ}{E:Mg->Mi->Prop}{s:Mi}{K:Frag}
def ledger(h:MI)(L d:Ml):List (Ml×Obj):=(List.range h.objs.size).filterMap fun a=>if a=L\/a=d then none else (h.get? a).map fun o=>(a,o)
end
end Att
namespace L2
open PySem PySem.Spec PyProof.Rows
theorem cI:∀{vs:List Mg} {ns:List Int},IntsAre vs ns->m8 (ns.map V.int) vs
 | _,_,.nil=>.nil
 | _,_,.cons n t h=>.cons ⟨t,rfl⟩ (cI h)
def G8(H:Hp):Prop:=∀b,H b=none\/∃o xs,H b=some (.frz o (.lst xs))
theorem DN{P:Mv}{w:MH}{K:Mj}{mg mb:Str->Me Mg}{CX:Bq}{k:Nat}{fa a:Ml}{fd:Nl}{x:Str}{sp:Sp}{s₁:Mi}{vs:List Mg}{ns:List Int}
  (KX:K.In s₁.heap) (hns:s₁.heap.Ns mainGlobals mg) (hb:s₁.heap.Ns builtinsNs mb) (hbb:∀x:Str,x ≠ "__name__" -> mb x=bootBuiltins x) (hlim:s₁.heap.NoLimit) (hg:s₁.gens=#[])
  (ha:s₁.heap.get? a=some {cls:=.type "list",data:=.seq vs.toArray}) (hi:IntsAre vs ns) (hl:ns.length<=sizeLine) (hr:ri k callerA)
  (F:∀base:MI,K.In base->base.Ns mainGlobals mg->l7 P w K mg base CX k fa fd [x] sp) (hbind:∀(s:Mi) (u:Mg),BindsTo s fd ⟨[u],[]⟩ [(x,u)])
  (hsp:∀H:Hp,G8 H->ua K H a (ns.map V.int)->sp [.ref a] H (fun v _=>v=.bl true) fun _ _ _=>False)
  (hCX:∀H e s',CX [] H s₁ (fun _ _ _=>False) e s'->False) :
  codeAny (model P w) callerA (.call (.ref fa) ⟨[.ref a],[]⟩) (fun r s'=>r=.ok (.ret (.bool true))/\OldK s₁.heap s'.heap/\s'.os=s₁.os/\AllBare s'.gens) s₁:=by
 have rv:=cI hi
 have lenV:=hi.length
 have core:∀H:Hp,G8 H->ua K H a (ns.map V.int)->xl P w H s₁.heap->(∀b,H b≠none->b=a)->(H a≠none->K.lookup a=none) ->
   codeAny (model P w) callerA (.call (.ref fa) ⟨[.ref a],[]⟩) (fun r s'=>r=.ok (.ret (.bool true))/\OldK s₁.heap s'.heap/\s'.os=s₁.os/\AllBare s'.gens) s₁:=by
  intro H hO hS hok hA hK
  have base_of:∀{b:Ml} {o:Obj},s₁.heap.get? b=some o->H b=none->(zG s₁.heap H).get? b=some o:=fun e n=>Ef e n
  have noA:∀{b:Ml} {o:Obj} {es:Array DictEntry} {ep:Nat},s₁.heap.get? b=some o->o.data=.dict es ep->H b=none:=fun {b o es ep} e d=>by
   cases q:H b with
   | none=>rfl
   | some u =>
    have e':b=a:=hA b (by rw[q];simp)
    subst e'
    rw[ha] at e;cases e
    have d':Data.seq vs.toArray _=Data.dict es ep:=d
    cases d'
  have nsK:∀{b:Ml} {m:Str->Me Mg},s₁.heap.Ns b m->(zG s₁.heap H).Ns b m:=fun {b m} ⟨o,es,ep,e,d,r⟩=>⟨o,es,ep,base_of e (noA e d),d,r⟩
  have hKb:K.In (zG s₁.heap H):=fun b o e=>base_of (KX b o e) (by
   cases q:H b with
   | none=>rfl
   | some u =>
    have e':b=a:=hA b (by rw[q];simp)
    subst e'
    rw[hK (by rw[q];simp)] at e;cases e)
  have hM:Mod K mg (zG s₁.heap H):=⟨hKb,nsK hns,⟨mb,nsK hb,hbb⟩,let ⟨mc,h1,h2⟩:=hlim;⟨mc,nsK h1,h2⟩⟩
  have e0:yy P w K mg (zG s₁.heap H) callerA [] s₁ H:=⟨rfl,hM,fun b o e=>Fp e,Nat.le_of_eq (C2 _ _),trivial,fun b hb=>MY (show b∈([]:List Ml) from hb) (by simp),hok,.of_eq hg⟩
  refine codeAny_mono ((F _ hKb (nsK hns)).run callerA [] s₁ H ⟨[.ref a],[]⟩ [.ref a] [.ref a] _ _ hr e0 (hbind s₁ (.ref a)) (.cons rfl .nil) (hsp H hO hS)) fun r s' h=>?_
  cases r with
  | error e=>exact(hCX H e s' h).elim
  | ok fl =>
   cases fl with
   | next=>exact False.elim h
   | brk=>exact False.elim h
   | cont=>exact False.elim h
   | ret u =>
    obtain⟨v,H',os,bare,un,hok',r',q⟩:=h
    have q':v=.bl true:=q
    subst q'
    obtain rfl:u=Value.bool true:=r'
    refine⟨rfl,OldK.of_keep fun b o e=>?_,os,bare⟩
    cases q:H b with
    | none=>exact un.keep b o e q (by intro z;exact MY (show b∈([]:List Ml) from z) (by simp)) (by simp)
    | some u =>
     rcases hO b with z | ⟨ob,xs,z⟩
     ·rw[q] at z;cases z
     ·have z2:=un.frzs b ob _ (fun y q=>by cases q) z
      obtain⟨e1,_⟩:=hok b _ z
      obtain⟨e2,_⟩:=hok' b _ z2
      rw[e] at e1;cases e1
      exact e2
 cases hk:K.lookup a with
 | some o =>
  have e:=KX a o hk
  rw[ha] at e
  cases e
  refine core (fun _=>none) (fun _=>.inl rfl) (.inr ⟨_,vs.toArray,_,hk,rfl,rfl,rfl,by rw[Mz,lenV];exact hl,by simpa using rv⟩) (fun b u z=>by have z':(none:Me HO)=some u:=z;cases z') (fun b z=>MY rfl z) fun z=>MY rfl z
 | none =>
  refine core (fun b=>if b=a then some (.frz {cls:=.type "list",data:=.seq vs.toArray} (.lst (ns.map V.int))) else none) (fun b=>?_) (.inl (.inr ⟨{cls:=.type "list",data:=.seq vs.toArray},Mo rfl⟩)) (fun b u z=>?_) (fun b z=>?_) fun _=>hk
  ·by_cases hb:b=a
   ·exact .inr ⟨_,_,Mo hb⟩
   ·exact .inl (Mx hb)
  ·by_cases hb:b=a
   ·have z':=(Mo hb).symm.trans z
    cases z'
    subst hb
    exact⟨ha,by rw[Ms];exact hl,vs,_,rv,ha⟩
   ·have z':=(Mx hb).symm.trans z
    cases z'
  ·by_cases hb:b=a
   ·exact hb
   ·exact MY (Mx hb) z
end L2
namespace L2
open PySem PySem.Spec PyProof.Rows
abbrev KOf{K:Mj}{h:MI}(_:K.In h):Mj:=K
theorem walk_of {l:PySem.W.OpenLaw} {n k:Nat} {q:Mv} {loose:List Str} {XP:(Str->Me Mg)->MI->Prop} {YP:MH->MI->Prop} {d:DefRec} {K:Params->Mj} {CX:MH->Bq} {sp:MH->Sp} {x:Str}
    (hn:l.most=some n) (hn2:n<=sizeLine) (hdf:d.params.defaults=[]) (hr:ri k callerA)
    (hY:∀(w:MH) (h:MI),YP w h->(K w.params).In h)
    (F:∀(w:MH) (mg:Str->Me Mg) (fa:Ml) (h:MI),(K w.params).In h->h.Ns mainGlobals mg->mg d.name=some (.ref fa) ->
      ∃fd:Nl,(∀(s:Mi) (u:Mg),BindsTo s fd ⟨[u],[]⟩ [(x,u)]) /\
        ∀base:MI,(K w.params).In base->base.Ns mainGlobals mg->l7 l.prog w (K w.params) mg base (CX w) k fa fd [x] (sp w))
    (hsp:∀(w:MH) (H:Hp) (a:Ml) (ns:List Int),ns.length<=n->G8 H->ua (K w.params) H a (ns.map V.int)->sp w [.ref a] H (fun v _=>v=.bl true) fun _ _ _=>False)
    (hCX:∀(w:MH) (H:Hp) (s:Mi) (e:Mg) (s':Mi),CX w [] H s (fun _ _ _=>False) e s'->False) :
    PySem.W.WalkO q loose XP YP l.row.toRowW d [] (fun f vs=>PySem.call f vs):=by
  refine Att.attach_call hn hdf fun w s₀ s₁ mg mb fa o pm cd doc a vs ns G Y ho hd hcd hmg hobj hints hlen hg=>?_
  have KX:=hY w _ Y
  obtain⟨fd,hb,hF⟩:=F w mg fa _ KX G.T.g hmg
  exact DN KX G.T.g G.T.b G.T.builtins G.T.nolimit hg hobj hints (MN hlen hn2) hr hF hb (fun H hO hS=>hsp w H a ns hlen hO hS) fun H e s'=>hCX w H s₁ e s'
end L2
/- THE LAST THEOREM (shape;LID,My.* are yours):
  My.Adr: a structure of the addresses that your layer names (classes,functions);My.Txt K t: a structure (Prop) of the equations over K;
  My.txt_mk:{K} {implicit addresses ..} (e1:nsIn K mainGlobals "law" = some (some (.ref f))) (e2:K.lookup f=some ⟨oc,od,.func (fnOf "law" "law" params body scope dV kV doc pm an cdv ct),sl⟩) (e3:codeIn K cdv "law" = true) ..:∃t,My.Txt K t
set_option maxRecDepth 100000 in
set_option maxHeartbeats 0 in
theorem PySem.Challenge.cw_LID_holds : PySem.Challenge.rw_LID.Holds := by
 w_on;o_law;k_head;(case hw=>w_witness2)
 k_fill
 refine L2.walk_of (l:=PySem.Challenge.rw_LID) (n:=63) (k:=40) (x:="script") (CX:=fun w=>..) (sp:=fun _=>My.sp_law) rfl (by decide) rfl ⟨rfl,by decide,by decide⟩ (fun w h Y=>PySem.W.kIn_of Y) ?F ?S ?C
 case F =>
  intro w mg fa h KX G hmg
  have T:∃t,My.Txt (L2.KOf KX) t:=by
   dsimp only [L2.KOf]                          -- K must stand as «<heap const> w.params» for k_is
   refine' My.txt_mk ?e1 ?e2 ?e3 ..
   (case e1=>PySem.W.k_is)                    -- in the order: a name->its address->its object->its parts
   (case e2=>PySem.W.k_is)
   ..
  obtain⟨t,T⟩:=T
  have e0:=hmg.symm.trans (MF KX G T.law)
  cases e0                                       -- fa is the law's own address
  exact⟨_,fun s u=>.of_eq rfl,fun base kb nb=>My.law_fn T kb nb⟩     -- if «.of_eq rfl» comes too early: refine' ⟨_,?b,fun base kb nb=>My.law_fn T kb nb⟩;exact fun s u=>.of_eq rfl
 case S=>exact fun w H a ns hl hO hS=>..
 case C=>exact ..
(the tactic k_is has no namespace: write k_is) -/
namespace L2
open PySem PySem.Spec PyProof.Rows
def inClass(s:ML)(j:Nat):ML:=match s with
 | .ClassDef _ _ _ body _ _ _ _ _ _ _=>body.getD j (.Pass ⟨0,0,0,0⟩)
 | _=>.Pass ⟨0,0,0,0⟩
def sN(s:ML):Arguments:=match s with
 | .FunctionDef _ a _ _ _ _ _ _ _ _=>a
 | _=>{posonlyargs:=[],args:=[],vararg:=none,kwonlyargs:=[],kw_defaults:=[],kwarg:=none,defaults:=[]}
def rG(s:ML):List ML:=match s with
 | .FunctionDef _ _ b _ _ _ _ _ _ _=>b
 | _=>[]
def i6(s:ML):Scope:=match s with
 | .FunctionDef _ _ _ _ _ _ sc _ _ _=>sc
 | _=>{kind:=.function,names:=[],isGenerator:=false,isCoroutine:=false}
abbrev q8:Bq:=fun _ _ _ _ _ _=>False
abbrev E0:XK:=fun _ _ _=>False
theorem wZ{X:Cx}:vX q8 X E0:=fun _ _ _ _ _ _ _ h=>h.elim
structure rJ (K:Mj) (x qual:Str) (st:ML) (f:Ml) (fd:Nl):Prop where
 ex:∃(oc:Mg) (od:Me Ml) (kV doc pm:Mg) (an:Me Ml) (cdv ct:Mg) (osl:Array (Me Mg)),
  fd=PySem.W.fnOf x qual (sN st) (rG st) (i6 st) .none kV doc pm an cdv ct/\K.lookup f=some ⟨oc,od,.func fd,osl⟩/\PySem.W.codeIn K cdv qual=true
 kp:PySem.W.keepIn K (.ref f)=true
section
variable{P:Mv}{w:MH}{K:Mj}{mg:Str->Me Mg}{base:MI}
theorem rJ.ok {x qual:Str} {st:ML} {f:Ml} {fd:Nl} {N ps:List Str} {k:Nat} {sp:Sp} (F:rJ K x qual st f fd) (S:k4 N ps (i6 st)) (len:∀ vs H Q E,sp vs H Q E->vs.length=ps.length)
    (hbody:∀(cdv:Mg) (A:MQ) (outer:List Env) (s:Mi) (H:Hp) (vs:List V) (Q:VK) (E:XK),ri k (A.deeper (envOfC qual (i6 st) s.heap.objs.size f cdv))->sp vs H Q E ->
      ∃t,PSs (yo q8 P w K mg base N qual (i6 st) f cdv A outer s H E).nox (rG st) t/\t {nx:=fun _ H'=>Q .non H',rt:=Q} (start N vs) H):l7 P w K mg base q8 (k+1) f fd ps sp:=by
  obtain⟨oc,od,kV,doc,pm,an,cdv,ct,osl,rfl,lk,hcd⟩:=F.ex
  refine qB lk hcd S len fun A outer s H vs Q E hr hsp=>?_
  obtain⟨t,h,q⟩:=hbody cdv A outer s H vs Q E hr hsp
  exact⟨t,h.nox,q⟩
theorem rJ.binds{x qual:Str}{st:ML}{f:Ml}{fd:Nl}{ps:List Str}(F:rJ K x qual st f fd)
  (h:∀(kV doc pm:Mg) (an:Me Ml) (cdv ct:Mg) (us:List Mg),us.length=ps.length->bindArgs (PySem.W.fnOf x qual (sN st) (rG st) (i6 st) .none kV doc pm an cdv ct) ⟨us,[]⟩=pure (ps.zip us)):Binds K fd ps []:=by
 obtain⟨oc,od,kV,doc,pm,an,cdv,ct,osl,rfl,lk,hcd⟩:=F.ex
 exact .all (h kV doc pm an cdv ct)
theorem lL{x qual:Str}{st:ML}{f:Ml}{oc:Mg}{od an:Me Ml}{osl:Array (Me Mg)}{kV doc pm cdv ct:Mg}(l:K.lookup f=some ⟨oc,od,.func (PySem.W.fnOf x qual (sN st) (rG st) (i6 st) .none kV doc pm an cdv ct),osl⟩)
  (c:PySem.W.codeIn K cdv qual=true) (k:PySem.W.keepIn K (.ref f)=true):rJ K x qual st f (PySem.W.fnOf x qual (sN st) (rG st) (i6 st) .none kV doc pm an cdv ct):=⟨⟨oc,od,kV,doc,pm,an,cdv,ct,osl,rfl,l,c⟩,k⟩
end
theorem wC{n:Nat}(h:n<=1000):n<sizeLine:=ND h (by decide)
section
variable{X:Cx}
theorem pv(i:Nat){x:Str}{pos:Pos}(hN:X.N[i]?=some x:=by rfl)(hv:BS X.env.scope x:=by first | exact Or.inl rfl | exact Or.inr (Or.inl rfl) | exact Or.inr (Or.inr rfl))(hd:(x==("__debug__" : Str))=false:=by decide)
  (hcd:(x==("__classdict__" : Str))=false:=by decide):PE X (.Name x pos) (HB i):=li hN hv hd hcd
end
def l0(H H':Hp):Prop:=∀b o,H b=some o->H' b=some o
theorem l0.refl(H:Hp):l0 H H:=fun _ _ h=>h
theorem l0.trans{H H1 H2:Hp}(a:l0 H H1)(b:l0 H1 H2):l0 H H2:=fun c o h=>b c o (a c o h)
theorem l0.free{H H':Hp}(e:l0 H H'){l:Ml}(h:H' l=Option.none):H l=Option.none:=by
 cases q:H l with
 | none=>rfl
 | some o =>
  rw[e l o q] at h
  cases h
theorem l0.seq{K:Mj}{H H':Hp}{a:Ml}{xs:List V}(e:l0 H H')(h:ua K H a xs):ua K H' a xs:=by
 rcases h with (h | ⟨o,h⟩) | h
 ·exact .inl (.inl (e _ _ h))
 ·exact .inl (.inr ⟨o,e _ _ h⟩)
 ·exact .inr h
end L2
namespace HW
open PySem
inductive D where
 | non
 | bl (b:Bool)
 | int (i:Int)
 | str (x:Str)
 | tup (xs:List D)
 | lst (xs:List D)
 | fro (xs:List D)
 | obj (k a:Nat) (ks:List Str) (ds:List D)
 | rf (a:Nat)
 deriving Inhabited
abbrev R:=List (Me D)
abbrev OD:=Me D
abbrev LD:=List D
abbrev oS(x:String):Str:=Str.ofString x
@[simp] abbrev kI (n:Int):R->OD:=fun _=>some (.int n)
@[simp] abbrev kS (x:String):R->OD:=fun _=>some (.str (oS x))
inductive Out where
 | nx (ρ:R)
 | rt (d:D)
 | bk (ρ:R)
 | ct (ρ:R)
@[simp] noncomputable def GL:D->Me Bool
 | .non=>some false
 | .bl b=>some b
 | .int i=>some (i != 0)
 | .str x=>if x.length<=sizeLine then some ((x.length:Int) != 0) else none
 | .tup xs=>some (!xs.isEmpty)
 | .lst xs=>some (!xs.isEmpty)
 | .fro xs=>some (!xs.isEmpty)
 | .obj ..=>none
 | .rf ..=>none
noncomputable def bI(b:Bool):Int:=if b then 1 else 0
@[simp] noncomputable def nI:D->Me Int
 | .int i=>some i
 | _=>none
@[simp] def tI:D->Me LD
 | .tup xs=>some xs
 | _=>none
@[simp] def lI:D->Me LD
 | .lst xs=>some xs
 | _=>none
@[simp] def sI:D->Me Str
 | .str x=>some x
 | _=>none
@[simp] def bO:D->Me Bool
 | .bl b=>some b
 | _=>none
@[simp] def p6 (x y:D):OD:=match x with
 | .int i=>(nI y).map fun j=>.int (i+j)
 | .tup xs=>(tI y).bind fun ys=>if xs.length+ys.length<=sizeLine then some (.tup (xs++ys)) else none
 | .lst xs=>(lI y).bind fun ys=>if xs.length+ys.length<=sizeLine then some (.lst (xs++ys)) else none
 | .str x=>(sI y).bind fun y=>if x.length+y.length<=sizeLine then some (.str (x++y)) else none
 | _=>none
@[simp] def um (x y:D):OD:=(nI x).bind fun i=>(nI y).map fun j=>.int (i - j)
def rC(i j:Int):Bool:=(decide (-(2 ^ 64)<i)&&decide (i<2 ^ 64))||(decide (-(2 ^ 64)<j)&&decide (j<2 ^ 64))
@[simp] def vc (x y:D):OD:=(nI x).bind fun i=>(nI y).bind fun j=>if rC i j then some (.int (i*j)) else none
@[simp] def tm (x y:D):OD:=(nI x).bind fun i=>(nI y).bind fun j=>if 0<j/\j<1073741824 then some (.int (i / j)) else none
@[simp] def rk (x y:D):OD:=(nI x).bind fun i=>(nI y).bind fun j=>if 0<j then some (.int (i%j)) else none
@[simp] def Im (x:D):OD:=(nI x).map fun i=>.int (-i)
@[simp] def HL (x y:D):Me Bool:=(nI x).bind fun i=>(nI y).map fun j=>decide (i<j)
@[simp] def G4 (x y:D):Me Bool:=(nI x).bind fun i=>(nI y).map fun j=>decide (i<=j)
@[simp] def CO (x y:D):Me Bool:=(nI x).bind fun i=>(nI y).map fun j=>decide (j<i)
@[simp] def Lo (x y:D):Me Bool:=(nI x).bind fun i=>(nI y).map fun j=>decide (j<=i)
@[simp] def D3 (x y:D):Me Bool:=match x with
 | .int i=>(nI y).map fun j=>i==j
 | .str a=>(sI y).map fun b=>a==b
 | .bl a=>(bO y).map fun b=>a==b
 | _=>none
@[simp] def uV:D->D->Me Bool:=D3
@[simp] def Ia (x y:D):Me Bool:=(D3 x y).map (!·)
@[simp] noncomputable def Fz:D->Bool
 | .non=>true
 | _=>false
@[simp] def wu (x y:D):Me Bool:=if Fz y then some (Fz x) else none
@[simp] def tP (x y:D):Me Bool:=(wu x y).map (!·)
def flat:D->Bool
 | .non=>true
 | .bl _=>true
 | .int _=>true
 | .str _=>true
 | _=>false
def JY:D->D->Bool
 | .non,.non=>true
 | .bl a,.bl b=>a==b
 | .bl a,.int b=>bI a==b
 | .int a,.bl b=>a==bI b
 | .int a,.int b=>a==b
 | .str a,.str b=>a==b
 | _,_=>false
@[simp] def DS:D->Me LD
 | .tup xs=>some xs
 | .lst xs=>some xs
 | .fro xs=>some xs
 | _=>none
mutual
def Gf:D->D->Bool
 | .non,.non=>true
 | .bl a,.bl b=>a==b
 | .bl a,.int b=>bI a==b
 | .int a,.bl b=>a==bI b
 | .int a,.int b=>a==b
 | .str a,.str b=>a==b
 | .tup xs,.tup ys=>yA xs ys
 | .lst xs,.lst ys=>yA xs ys
 | .lst xs,.fro ys=>yA xs ys
 | .fro xs,.lst ys=>yA xs ys
 | .fro xs,.fro ys=>yA xs ys
 | _,_=>false
def yA:LD->LD->Bool
 | [],[]=>true
 | x::xs,y::ys=>Gf x y&&yA xs ys
 | _,_=>false
end
mutual
def uu:D->Nat
 | .tup xs=>ud xs+1
 | .lst xs=>ud xs+1
 | .fro xs=>ud xs+1
 | _=>0
def ud:LD->Nat
 | []=>0
 | x::xs=>max (uu x) (ud xs)
end
mutual
def rM:D->Bool
 | .str x=>x.cps.all (·<0x110000)
 | .tup xs=>tR xs
 | .lst xs=>tR xs
 | .fro xs=>tR xs
 | .obj ..=>false
 | .rf ..=>false
 | _=>true
def tR:LD->Bool
 | []=>true
 | x::xs=>rM x&&tR xs
end
mutual
def qU:D->Bool
 | .tup xs=>p8 xs
 | .lst xs=>p8 xs
 | .fro xs=>p8 xs
 | .obj ..=>false
 | .rf ..=>false
 | _=>true
def p8:LD->Bool
 | []=>true
 | x::xs=>qU x&&p8 xs
end
mutual
theorem bD:∀{d:D},rM d=true->qU d=true
 | .non,_=>rfl
 | .bl _,_=>rfl
 | .int _,_=>rfl
 | .str _,_=>rfl
 | .tup xs,h=>fL (xs:=xs) h
 | .lst xs,h=>fL (xs:=xs) h
 | .fro xs,h=>fL (xs:=xs) h
 | .obj ..,h=>by cases h
 | .rf ..,h=>by cases h
theorem fL:∀{xs:LD},tR xs=true->p8 xs=true
 | [],_=>rfl
 | x::xs,h=>by
  have h':(rM x&&tR xs)=true:=h
  rw[Mp] at h'
  show(qU x&&p8 xs)=true
  rw[bD h'.1,fL h'.2];rfl
end
def zj(x y:D):Me Bool:=if uu x<=100/\rM x=true/\rM y=true then some (Gf x y) else none
def Ac(x y:D):Me Bool:=(zj x y).map (!·)
noncomputable def Ig(n:Nat)(i:Int):Me Nat:=if 0<=i then (if i<n then some i.toNat else none) else if -(n:Int)<=i then some (i+n).toNat else none
def Cj(xs:LD)(i:Int):OD:=(Ig xs.length i).bind fun j=>xs[j]?
@[simp] def l4:D->D->OD
 | .tup xs,.int i=>Cj xs i
 | .lst xs,.int i=>Cj xs i
 | .fro xs,.int i=>Cj xs i
 | .str x,.int i=>if x.length<=sizeLine then ((Ig x.length i).bind fun j=>x.cps.toList[j]?).map fun c=>.str ⟨#[c]⟩ else none
 | _,_=>none
noncomputable def Eh(n d:Nat):Me Int->Nat
 | none=>d
 | some v=>if v<0 then (v+(n:Int)).toNat else min v.toNat n
def cutD(xs:LD)(lo hi:Me Int):LD:=(xs.drop (Eh xs.length 0 lo)).take (Eh xs.length xs.length hi - Eh xs.length 0 lo)
@[simp] def J5:D->Me Int->Me Int->OD
 | .tup xs,lo,hi=>some (.tup (cutD xs lo hi))
 | .lst xs,lo,hi=>some (.lst (cutD xs lo hi))
 | _,_,_=>none
@[simp] def L7:D->Me (Me Int)
 | .int i=>some (some i)
 | _=>none
@[simp] noncomputable def IO:D->String
 | .non=>"NoneType"
 | .bl _=>"bool"
 | .int _=>"int"
 | .str _=>"str"
 | .tup _=>"tuple"
 | .lst _=>"list"
 | .fro _=>"list"
 | .obj ..=>"object"
 | .rf ..=>"object"
@[simp] def tU:D->Bool
 | .obj ..=>true
 | _=>false
@[simp] def Lp (d:D) (n:String):Bool:=decide (IO d=n)||(decide (IO d = "bool")&&decide (n = "int"))
@[simp] def wM:LD->OD
 | [d]=>(DS d).map fun xs=>.int xs.length
 | _=>none
@[simp] def Lk:LD->OD
 | [.tup xs]=>some (.lst xs)
 | [.lst xs]=>some (.lst xs)
 | _=>none
@[simp] def zx:LD->OD
 | [.tup xs]=>some (.tup xs)
 | [.lst xs]=>some (.tup xs)
 | _=>none
@[simp] def AZ:LD->OD
 | [.int i,.int j]=>some (.int (if j > i then j else i))
 | _=>none
@[simp] def Ar:LD->OD
 | [.lst []]=>some .non
 | [.lst [.int a]]=>some (.int a)
 | [.lst [.int a,.int b]]=>some (.int (if b > a then b else a))
 | _=>none
noncomputable def B5(x:Str):Me Str:=if x=oS "a" then some (oS "A") else if x=oS "b" then some (oS "B") else if x=oS "c" then some (oS "C") else none
def JU:D->OD
 | .str x=>(B5 x).map .str
 | _=>none
def DO(ws:List Str):D->OD
 | .str x=>(ws.findIdx? (·==x)).map fun (j:Nat)=>.int (j:Int)
 | _=>none
def bools:LD->Me (List Bool)
 | []=>some []
 | .bl b::r=>(bools r).map (b::·)
 | _=>none
noncomputable def xi(st:D->R->Me R)(body:R->Me Out):LD->R->Me Out
 | [],ρ=>some (.nx ρ)
 | d::ds,ρ=>(st d ρ).bind fun ρ1=>(body ρ1).bind fun o=>match o with
  | .nx ρ2=>xi st body ds ρ2
  | .ct ρ2=>xi st body ds ρ2
  | .bk ρ2=>some (.nx ρ2)
  | .rt r=>some (.rt r)
noncomputable def rQ(st:D->R->Me R)(c:R->Me Bool)(e:R->OD):LD->R->Me LD
 | [],_=>some []
 | d::ds,ρ=>(st d ρ).bind fun ρ1=>(c ρ1).bind fun b=>(if b then (e ρ1).map some else some none).bind fun x =>
   (rQ st c e ds ρ).map fun r=>match x with
    | some y=>y::r
    | none=>r
@[simp] def l8 (f g:R->Me Out):R->Me Out:=fun ρ=>(f ρ).bind fun o=>match o with
 | .nx ρ2=>g ρ2
 | o=>some o
@[simp] noncomputable def i5 (i:Nat) (ρ:R):OD:=ρ.getD i none
@[simp] def setAt (i:Nat) (d:D) (ρ:R):Me R:=if i<ρ.length then some (ρ.set i (some d)) else none
@[simp] def vO (c:R->Me Bool) (f g:R->Me Out):R->Me Out:=fun ρ=>(c ρ).bind fun b=>if b then f ρ else g ρ
@[simp] def zm (f g:R->OD):R->OD:=fun ρ=>(f ρ).bind fun x=>match x with
 | .bl true=>g ρ
 | .bl false=>some (.bl false)
 | _=>none
@[simp] def A1 (f:R->OD):R->OD:=fun ρ=>(f ρ).bind fun x=>match x with
 | .bl b=>some (.bl !b)
 | _=>none
@[simp] def yr (f g:R->Me Bool):R->Me Bool:=fun ρ=>(f ρ).bind fun b=>if b then g ρ else some false
@[simp] def AA (f g:R->Me Bool):R->Me Bool:=fun ρ=>(f ρ).bind fun b=>if b then some true else g ρ
@[simp] def AO (f:R->Me Bool):R->Me Bool:=fun ρ=>(f ρ).map (!·)
@[simp] def AW (c:R->Me Bool) (f g:R->OD):R->OD:=fun ρ=>(c ρ).bind fun b=>if b then f ρ else g ρ
@[simp] def k6 (F:D->D->OD) (f g:R->OD):R->OD:=fun ρ=>(f ρ).bind fun x=>(g ρ).bind fun y=>F x y
@[simp] def v9 (F:D->OD) (f:R->OD):R->OD:=fun ρ=>(f ρ).bind F
@[simp] def m6 (F:D->D->Me Bool) (f g:R->OD):R->Me Bool:=fun ρ=>(f ρ).bind fun x=>(g ρ).bind fun y=>F x y
@[simp] def AR (f:R->Me Bool):R->OD:=fun ρ=>(f ρ).map .bl
@[simp] def vC (f:R->OD):R->Me Bool:=fun ρ=>(f ρ).bind GL
@[simp] def i7:R->Me LD:=fun _=>some []
@[simp] def i4 (f:R->OD) (g:R->Me LD):R->Me LD:=fun ρ=>(f ρ).bind fun d=>(g ρ).map fun ds=>d::ds
@[simp] def i8 (F:LD->OD) (g:R->Me LD):R->OD:=fun ρ=>(g ρ).bind F
@[simp] def n8 (g:R->Me LD):R->OD:=fun ρ=>(g ρ).map .tup
@[simp] def CG (g:R->Me LD):R->OD:=fun ρ=>(g ρ).map .lst
@[simp] def JZ:R->Me (Me Int):=fun _=>some none
@[simp] def aP (f:R->OD):R->Me (Me Int):=fun ρ=>(f ρ).bind L7
@[simp] def H_ (f:R->OD) (l h:R->Me (Me Int)):R->OD:=fun ρ=>(f ρ).bind fun x=>(l ρ).bind fun a=>(h ρ).bind fun b=>J5 x a b
@[simp] def m7 (f:R->OD):R->Me Out:=fun ρ=>(f ρ).map .rt
@[simp] def n5 (f:R->OD) (st:D->R->Me R):R->Me Out:=fun ρ=>(f ρ).bind fun d=>(st d ρ).map .nx
@[simp] def rg:R->Me Out:=fun ρ=>some (.nx ρ)
@[simp] def xH (it:R->Me LD) (st:D->R->Me R) (body:R->Me Out):R->Me Out:=fun ρ=>(it ρ).bind fun ds=>xi st body ds ρ
noncomputable def chars(x:Str):LD:=x.cps.toList.map fun c=>.str ⟨#[c]⟩
@[simp] def sk (f:R->OD):R->Me LD:=fun ρ=>(f ρ).bind fun d=>match d with
 | .tup xs=>some xs
 | .lst xs=>some xs
 | .str x=>if x.cps.all (·<128) then some (chars x) else none
 | _=>none
noncomputable def tH(a b:Int):LD:=(List.range (b - a).toNat).map fun (k:Nat)=>D.int (a+(k:Int))
@[simp] def s_ (f:R->OD):R->Me LD:=fun ρ=>(f ρ).bind fun d=>match d with
 | .int j=>if -(2 ^ 62)<=j/\j<2 ^ 62 then some (tH 0 j) else none
 | _=>none
def ym(k:Nat)(it:R->Me LD)(st:D->R->Me R)(c:R->Me Bool)(e:R->OD):R->OD:=fun ρ =>
 (it ρ).bind fun ds=>if ds.length<=sizeLine then (rQ st c e ds (List.replicate k none++ρ)).map .lst else none
@[simp] def uF:R->Me Bool:=fun _=>some true
@[simp] def xk (n:Nat) (ds:LD):R:=ds.map some++List.replicate (n - ds.length) none
@[simp] def w9:Me Out->OD
 | some (.rt d)=>some d
 | some (.nx _)=>some .non
 | _=>none
@[simp] noncomputable def Ab:List (D->R->Me R)->LD->R->Me R
 | [],[],ρ=>some ρ
 | f::fs,d::ds,ρ=>(f d ρ).bind fun ρ1=>Ab fs ds ρ1
 | _,_,_=>none
@[simp] def AN (fs:List (D->R->Me R)):D->R->Me R
 | .tup ds,ρ=>Ab fs ds ρ
 | _,_=>none
@[simp] def AG (u:R->Me Out):R->LD->Me (Out×LD):=fun ρ ds=>(u ρ).map fun o=>(o,ds)
@[simp] def zY (i:Nat) (f:R->OD):R->LD->Me (Out×LD):=fun ρ ds=>(f ρ).bind fun d=>if ρ.length=i/\ds.length<sizeLine then some (.nx ρ,ds++[d]) else none
@[simp] def A7 (i:Nat) (f:R->OD):R->LD->Me (Out×LD):=fun ρ ds=>(f ρ).bind fun d=>match d with
 | .lst es=>if ρ.length=i/\ds.length+es.length<=sizeLine then some (.nx ρ,ds++es) else none
 | _=>none
@[simp] def xb:R->LD->Me (Out×LD):=fun ρ ds=>some (.nx ρ,ds)
@[simp] def AU (p q:R->LD->Me (Out×LD)):R->LD->Me (Out×LD):=fun ρ ds=>(p ρ ds).bind fun r=>match r with
 | (.nx ρ2,ds2)=>q ρ2 ds2
 | r=>some r
@[simp] def EG (c:R->Me Bool) (p q:R->LD->Me (Out×LD)):R->LD->Me (Out×LD):=fun ρ ds=>(c ρ).bind fun b=>if b then p ρ ds else q ρ ds
noncomputable def yw(st:D->R->Me R)(p:R->LD->Me (Out×LD)):LD->R->LD->Me (Out×LD)
 | [],ρ,ds=>some (.nx ρ,ds)
 | d::es,ρ,ds=>(st d ρ).bind fun ρ1=>(p ρ1 ds).bind fun r=>match r with
  | (.nx ρ2,ds2)=>yw st p es ρ2 ds2
  | (.ct ρ2,ds2)=>yw st p es ρ2 ds2
  | (.bk ρ2,ds2)=>some (.nx ρ2,ds2)
  | r=>some r
@[simp] def DK (it:R->Me LD) (st:D->R->Me R) (p:R->LD->Me (Out×LD)):R->LD->Me (Out×LD):=fun ρ ds=>(it ρ).bind fun es=>yw st p es ρ ds
@[simp] def DF (i:Nat) (F:R->Me LD) (q:R->LD->Me Out):R->Me Out:=fun ρ=>(F ρ).bind fun ds=>if ρ.length=i+1 then q (ρ.take i) ds else none
@[simp] def vM (p:R->LD->Me (Out×LD)) (q:R->LD->Me Out):R->LD->Me Out:=fun ρ ds=>(p ρ ds).bind fun r=>match r with
 | (.nx ρ2,ds2)=>q ρ2 ds2
 | (.rt d,_)=>some (.rt d)
 | _=>none
@[simp] def ye (w:R->Me Out):R->LD->Me Out:=fun ρ ds=>w (ρ++[some (.lst ds)])
def JN(i:Nat)(tab:List (Str×(LD->OD)))(f:R->OD)(g:(LD->OD)->R->Me Out):R->Me Out:=fun ρ=>(f ρ).bind fun d=>match d with
 | .str z=>(tab.lookup z).bind fun F=>if i<ρ.length then g F (ρ.set i none) else none
 | _=>none
def via(k n:Nat)(g:R->Me Out)(ds:LD):OD:=if ds.length=k then w9 (g (xk n ds)) else none
theorem pi{k n:Nat}{g:R->Me Out}{ds:LD}{d:D}(h:via k n g ds=some d):ds.length=k:=by
 unfold via at h
 split at h
 ·assumption
 ·cases h
theorem qv{k n:Nat}{g:R->Me Out}{ds:LD}{d:D}(h:via k n g ds=some d):w9 (g (xk n ds))=some d:=by
 unfold via at h
 split at h
 ·exact h
 ·cases h
theorem yG{i j:Int}(h1 : -(2 ^ 64)<j)(h2:j<2 ^ 64):rC i j=true:=by unfold rC;rw[Nc h1,Nc h2];simp
theorem sG{i j:Int}(h1 : -(2 ^ 64)<i)(h2:i<2 ^ 64):rC i j=true:=by unfold rC;rw[Nc h1,Nc h2];simp
theorem xW{st:D->R->Me R}{body:R->Me Out}(P:Nat->R->Prop):∀(ds:LD) (k:Nat) (ρ0:R),P k ρ0->(∀i d ρ,ds[i]?=some d->P (k+i) ρ->∃ ρ1 ρ2,st d ρ=some ρ1/\body ρ1=some (.nx ρ2)/\P (k+i+1) ρ2) ->
  ∃ ρ',xi st body ds ρ0=some (.nx ρ')/\P (k+ds.length) ρ'
 | [],k,ρ0,h0,_=>⟨ρ0,rfl,h0⟩
 | d::ds,k,ρ0,h0,hs=>by
  obtain⟨ρ1,ρ2,h1,h2,h3⟩:=hs 0 d ρ0 rfl h0
  obtain⟨ρ',h4,h5⟩:=xW P ds (k+1) ρ2 h3 fun i d' ρ e p=>by
   have q:=hs (i+1) d' ρ (by simpa using e) (by rw[show k+(i+1)=k+1+i by omega];exact p)
   rw[show k+(i+1)+1=k+1+i+1 by omega] at q
   exact q
  refine⟨ρ',?_,?_⟩
  ·simp[xi,h1,h2,h4]
  ·rw[show k+(d::ds).length=k+1+ds.length by simp;omega];exact h5
theorem jI{n:Int}{i:Nat}{d:D}(e:(tH 0 n)[i]?=some d):d=.int i/\(i:Int)<n:=by
 unfold tH at e
 rw[Nb] at e
 cases q:(List.range (n - 0).toNat)[i]? with
 | none=>rw[q] at e;cases e
 | some k =>
  rw[q] at e
  obtain⟨h1,h2⟩:=MG.mp q
  simp at h1 h2
  subst h2
  have e':D.int (0+(i:Int))=d:=ME e
  rw[Int.zero_add] at e'
  exact⟨e'.symm,by omega⟩
theorem gQ(n:Int):(tH 0 n).length=n.toNat:=by simp[tH]
theorem wx{xs:LD}{i:Int}(h0:0<=i)(h1:i<xs.length):∃x,x∈xs/\Cj xs i=some x:=by
 have h2:i.toNat<xs.length:=by omega
 refine⟨xs[i.toNat],List.getElem_mem h2,?_⟩
 unfold Cj Ig
 rw[Mo h0,Mo h1]
 simp[h2]
inductive Fits:D->Prop
 | non:Fits .non
 | bl (b:Bool):Fits (.bl b)
 | int (i:Int):Fits (.int i)
 | str (x:Str):Fits (.str x)
 | tup {xs:LD}:xs.length<=1000->(∀x∈xs,Fits x)->Fits (.tup xs)
end HW
set_option maxHeartbeats 1000000
namespace HW
open PySem PySem.Spec PyProof.Rows L2
def Ka(x:Str):It:=⟨fun i _=>i<x.cps.size,fun i H v H'=>H'=H/\∃c,x.cps[i]?=some c/\v=.str ⟨#[c]⟩,fun i _=>x.cps.size<=i⟩
theorem DH{P:Mv}{w:MH}{K:Mj}{tg:MJ}(it:Ml)(x:Str)(t:Tok):Turn P w K tg (Ka x) [it] it (fun i h=>h.IsStrIter it "str_ascii_iterator" x t i) where
 mem:=by simp
 obj:=fun i h st b hb=>by
  have e:b=it:=by simpa using hb
  subst e
  obtain⟨o,e,c,d⟩:=st
  exact⟨o,e,fun v z=>by rw[d] at z;cases z⟩
 keep:=fun i h h' st k=>by
  obtain⟨o,e,r⟩:=st
  exact⟨o,k it (by simp) o e,r⟩
 item:=by
  intro X hP hw hK hc i pins s σ H E I hf st hg
  subst hP hw hK
  have hg':i<x.cps.size:=hg
  obtain⟨f0,f1,f2,f3,f4,f5⟩:=hf it (by simp)
  refine wpAny_pyNext_ascii_item st (c:=x.cps[i]) (by simp[hg']) fun h' st' sb=>?_
  have I1:L2.Inv X pins σ H {s with heap:=h',toks:=s.toks+1}:=I.turned (t':=s.toks+1) (fun b o hb e=>(sb.2 b hb).trans e) f0 f1 f3 f4 f5
  obtain⟨o,e,c,d⟩:=id st'
  exact⟨_,rfl,BV (s:={s with heap:=h',toks:=s.toks+1}) e c d (by decide) ⟨.str ⟨#[x.cps[i]]⟩,H,I1,⟨_,rfl⟩,⟨rfl,_,by simp[hg'],rfl⟩,st',fun b hb=>(hf b hb).1⟩⟩
 done:=by
  intro X hP hw hK hc i pins s σ H E I hf st hg
  subst hP hw hK
  have hg':x.cps.size<=i:=hg
  obtain⟨f0,f1,f2,f3,f4,f5⟩:=hf it (by simp)
  exact wpAny_pyNext_ascii_end (I.ok.hd hc) st (by simp;omega) fun h' eb=>⟨rfl,I.turned (t':=s.toks) (fun b o hb e=>eb b o hb e) f0 f1 f3 f4 f5⟩
 self:=fun _ _ _ _ _ st h=>wpAny_pyIter_striter_ascii st h
def H9(H:Hp)(k a:Nat)(ks:List Str)(vs:List V):Prop:=match k with
 | 0=>vs.length<=sizeLine/\∃(its:List Mg) (n:Nat),m8 vs its/\H a=some (.frz {cls:=.type "list",data:=.seq its.toArray n} (.own 0))
 | 1=>ks.length=vs.length/\H a=some (.dK ((ks.map Sum.inr).zip vs))
 | C+2=>ks.length=vs.length/\∃dx,H a=some (.ins C dx (ks.zip vs))
theorem H9.to{H H':Hp}{k a:Nat}{ks:List Str}{vs:List V}(h:H9 H k a ks vs)(e:∀u,H a=some u->(∀ φ,u≠.ext φ)->H' a=some u):H9 H' k a ks vs:=by
 match k,h with
 | 0,⟨z,its,n,r,q⟩=>exact⟨z,its,n,r,e _ q fun φ z=>by cases z⟩
 | 1,⟨z,q⟩=>exact⟨z,e _ q fun φ z=>by cases z⟩
 | C+2,⟨z,dx,q⟩=>exact⟨z,dx,e _ q fun φ z=>by cases z⟩
mutual
def Rep(K:Mj)(H:Hp):D->V->Prop
 | .non,v=>v=.non
 | .bl b,v=>v=.bl b
 | .int i,v=>v=.int i
 | .str x,v=>v=.str x
 | .tup ds,v=>∃a xs,v=.ref a/\uT K H a xs/\k9 K H ds xs
 | .lst ds,v=>∃a xs,v=.ref a/\H a=some (.lst xs)/\k9 K H ds xs
 | .fro ds,v=>∃a xs,v=.ref a/\ua K H a xs/\k9 K H ds xs
 | .obj k a ks ds,v=>∃xs,v=.ref a/\H9 H k a ks xs/\k9 K H ds xs
 | .rf a,v=>v=.ref a
def k9(K:Mj)(H:Hp):LD->List V->Prop
 | [],vs=>vs=[]
 | d::ds,vs=>∃v r,vs=v::r/\Rep K H d v/\k9 K H ds r
end
theorem IG{K:Mj}{H H':Hp}{a:Ml}{xs:List V}(e:l0 H H')(h:uT K H a xs):uT K H' a xs:=by
 rcases h with (h | ⟨o,h⟩) | h
 ·exact .inl (.inl (e _ _ h))
 ·exact .inl (.inr ⟨o,e _ _ h⟩)
 ·exact .inr h
mutual
theorem Rep.mono{K:Mj}{H H':Hp}(s:l0 H H'):∀{d:D} {v:V},Rep K H d v->Rep K H' d v
 | .non,_,h=>h
 | .bl _,_,h=>h
 | .int _,_,h=>h
 | .str _,_,h=>h
 | .tup ds,_,h=>by
  obtain⟨a,xs,e,q,r⟩:=h
  exact⟨a,xs,e,IG s q,k9.mono s r⟩
 | .lst ds,_,h=>by
  obtain⟨a,xs,e,q,r⟩:=h
  exact⟨a,xs,e,s _ _ q,k9.mono s r⟩
 | .fro ds,_,h=>by
  obtain⟨a,xs,e,q,r⟩:=h
  exact⟨a,xs,e,s.seq q,k9.mono s r⟩
 | .obj k a ks ds,_,h=>by
  obtain⟨xs,e,q,r⟩:=h
  exact⟨xs,e,q.to fun u z _=>s _ u z,k9.mono s r⟩
 | .rf _,_,h=>h
theorem k9.mono{K:Mj}{H H':Hp}(s:l0 H H'):∀{ds:LD} {vs:List V},k9 K H ds vs->k9 K H' ds vs
 | [],_,h=>h
 | d::ds,_,h=>by
  obtain⟨v,r,e,q,t⟩:=h
  exact⟨v,r,e,Rep.mono s q,k9.mono s t⟩
end
section
variable{K:Mj}{H:Hp}
theorem k9.length:∀{ds:LD} {vs:List V},k9 K H ds vs->ds.length=vs.length
 | [],_,h=>by cases (show _=[] from h);rfl
 | d::ds,_,h=>by
  obtain⟨v,r,e,q,t⟩:=h
  subst e
  simp[k9.length t]
theorem k9.get:∀{ds:LD} {vs:List V} {i:Nat} {d:D},k9 K H ds vs->ds[i]?=some d->∃v,vs[i]?=some v/\Rep K H d v
 | [],_,_,_,_,e=>by simp at e
 | d::ds,_,0,_,h,e=>by
  obtain⟨v,r,e',q,t⟩:=h
  subst e'
  simp at e
  subst e
  exact⟨v,by simp,q⟩
 | d::ds,_,i+1,_,h,e=>by
  obtain⟨v,r,e',q,t⟩:=h
  subst e'
  obtain⟨u,h1,h2⟩:=k9.get (i:=i) t (by simpa using e)
  exact⟨u,by simpa using h1,h2⟩
theorem k9.append:∀{ds es:LD} {vs us:List V},k9 K H ds vs->k9 K H es us->k9 K H (ds++es) (vs++us)
 | [],_,_,_,h,t=>by cases (show _=[] from h);exact t
 | d::ds,_,_,_,h,t=>by
  obtain⟨v,r,e',q,t'⟩:=h
  subst e'
  exact⟨v,_,rfl,q,k9.append t' t⟩
theorem k9.drop:∀(n:Nat) {ds:LD} {vs:List V},k9 K H ds vs->k9 K H (ds.drop n) (vs.drop n)
 | 0,_,_,h=>by simpa using h
 | n+1,[],_,h=>by cases (show _=[] from h);exact rfl
 | n+1,d::ds,_,h=>by
  obtain⟨v,r,e',q,t'⟩:=h
  subst e'
  simpa using k9.drop n t'
theorem k9.take:∀(n:Nat) {ds:LD} {vs:List V},k9 K H ds vs->k9 K H (ds.take n) (vs.take n)
 | 0,_,_,h=>by simp only[List.take_zero];exact rfl
 | n+1,[],_,h=>by cases (show _=[] from h);exact rfl
 | n+1,d::ds,_,h=>by
  obtain⟨v,r,e',q,t'⟩:=h
  subst e'
  rw[List.take_succ_cons,List.take_succ_cons]
  exact⟨v,_,rfl,q,k9.take n t'⟩
theorem k9.one{d:D}{v:V}(h:Rep K H d v):k9 K H [d] [v]:=⟨v,[],rfl,h,rfl⟩
theorem k9.nil:k9 K H [] []:=rfl
theorem k9.cons{d:D}{v:V}{ds:LD}{vs:List V}(h:Rep K H d v)(t:k9 K H ds vs):k9 K H (d::ds) (v::vs):=⟨v,vs,rfl,h,t⟩
def qV(K:Mj)(H:Hp)(ρ:R)(σ:L2.St):Prop:=ρ.length<=σ.length/\∀(i:Nat) (d:D),ρ[i]?=some (some d)->∃v,σ[i]?=some (some v)/\Rep K H d v
theorem qV.mono{H':Hp}{ρ:R}{σ:L2.St}(e:qV K H ρ σ)(s:l0 H H'):qV K H' ρ σ:=⟨e.1,fun i d h=>let ⟨v,a,b⟩:=e.2 i d h;⟨v,a,b.mono s⟩⟩
theorem qV.at{ρ:R}{σ:L2.St}(e:qV K H ρ σ){i:Nat}{d:D}(h:i5 i ρ=some d):∃v,σ[i]?=some (some v)/\Rep K H d v:=by
 refine e.2 i d ?_
 unfold i5 at h
 rw[M2] at h
 cases q:ρ[i]? with
 | none=>rw[q] at h;cases h
 | some o=>rw[q] at h;cases (show o=some d from h);rfl
theorem qV.set{ρ:R}{σ:L2.St}(e:qV K H ρ σ){i:Nat}{d:D}{v:V}(r:Rep K H d v):qV K H (ρ.set i (some d)) (σ.set i (some v)):=by
 refine⟨by simpa using e.1,fun j c h=>?_⟩
 by_cases hj:i=j
 ·subst hj
  by_cases hi:i<ρ.length
  ·rw[Na hi] at h
   cases h
   exact⟨v,by rw[Na (MB hi e.1)],r⟩
  ·rw[Np (by simpa using hi)] at h
   cases h
 ·rw[MW hj] at h ⊢
  exact e.2 j c h
theorem qV.front{ρ:R}{σ:L2.St}(e:qV K H ρ σ)(k:Nat)(τ:L2.St)(hk:τ.length=k):qV K H (List.replicate k none++ρ) (τ++σ):=by
 subst hk
 refine⟨by simpa using e.1,fun i d h=>?_⟩
 by_cases hi:i<τ.length
 ·rw[Nh (by simpa using hi),List.getElem?_replicate] at h
  split at h<;>cases h
 ·rw[M0 (by simpa using hi),List.length_replicate] at h
  rw[M0 (by simpa using hi)]
  exact e.2 _ d h
end
def qP(K:Mj)(H:Hp)(ρ:R)(τ:L2.St)(σ:L2.St):Prop:=qV K H ρ σ/\σ.drop ρ.length=τ
theorem qV.t{K:Mj}{H:Hp}{ρ:R}{σ:L2.St}(e:qV K H ρ σ):qP K H ρ (σ.drop ρ.length) σ:=⟨e,rfl⟩
theorem qP.mono{K:Mj}{H H':Hp}{ρ:R}{τ σ:L2.St}(e:qP K H ρ τ σ)(s:l0 H H'):qP K H' ρ τ σ:=⟨e.1.mono s,e.2⟩
theorem qP.set{K:Mj}{H:Hp}{ρ:R}{τ σ:L2.St}(e:qP K H ρ τ σ){i:Nat}{d:D}{v:V}(hi:i<ρ.length)(r:Rep K H d v):qP K H (ρ.set i (some d)) τ (σ.set i (some v)):=by
 refine⟨e.1.set r,?_⟩
 rw[MR,List.drop_set_of_lt hi]
 exact e.2
section
variable(K:Mj)
def tD(f:R->OD):TE:=fun σ H Q=>∃ ρ d,qV K H ρ σ/\f ρ=some d/\∀v H',l0 H H'->Rep K H' d v->Q v H'
def IR(f:R->Me Bool):TT:=fun σ H Q=>∃ ρ b,qV K H ρ σ/\f ρ=some b/\∀H',l0 H H'->Q b H'
def HU(f:R->Me LD):TA:=fun σ H Q=>∃ ρ ds,qV K H ρ σ/\f ρ=some ds/\∀vs H',l0 H H'->k9 K H' ds vs->Q vs H'
def LP(f:R->Me (Me Int)):TO:=fun σ H Q=>∃ ρ o,qV K H ρ σ/\f ρ=some o/\∀H',l0 H H'->Q o H'
def fin(E:Ends)(τ:L2.St)(o:Out)(H':Hp):Prop:=
 match o with
 | .nx ρ=>∀ σ,qP K H' ρ τ σ->E.nx σ H'
 | .rt d=>∀v,Rep K H' d v->E.rt v H'
 | .bk ρ=>∀ σ,qP K H' ρ τ σ->E.bk σ H'
 | .ct ρ=>∀ σ,qP K H' ρ τ σ->E.ct σ H'
def Gr(f:R->Me Out):TS:=fun E σ H=>∃ ρ τ o,qP K H ρ τ σ/\f ρ=some o/\∀H',l0 H H'->fin K E τ o H'
def LH(st:D->R->Me R):TG:=fun v σ H Q=>∃ ρ τ d ρ',qP K H ρ τ σ/\Rep K H d v/\st d ρ=some ρ'/\∀ σ' H',l0 H H'->qP K H' ρ' τ σ'->Q σ' H'
def Ld(sts:List (D->R->Me R)):Fb:=fun vs σ H Q=>∃ ρ τ ds ρ',qP K H ρ τ σ/\k9 K H ds vs/\Ab sts ds ρ=some ρ'/\∀ σ' H',l0 H H'->qP K H' ρ' τ σ'->Q σ' H'
def Kp(H H':Hp):Prop:=∀b u,H b=some u->(∀ φ,u≠.ext φ)->H' b=some u
def sV(J:It)(ds:LD)(H:Hp):Prop:=
 (∀(i:Nat) (d:D) (H2:Hp),Kp H H2->ds[i]?=some d->J.go i H2/\∀x H3,J.yld i H2 x H3->l0 H2 H3/\Rep K H3 d x)/\∀(i:Nat) (H2:Hp),Kp H H2->ds.length<=i->J.stop i H2
def LZ(f:R->Me LD):TI:=fun σ H W=>∃ ρ ds,qV K H ρ σ/\f ρ=some ds/\∀J H',l0 H H'->sV K J ds H'->W J H'
def rL(F:LD->OD):Sp:=fun vs H Q _=>∃ds d,k9 K H ds vs/\F ds=some d/\∀v H',l0 H H'->Rep K H' d v->Q v H'
end
def SE(X:Cx)(e:MJ)(f:R->OD):Prop:=PE X e (tD X.K f)
def ST(X:Cx)(e:MJ)(f:R->Me Bool):Prop:=PT X e (IR X.K f)
def SW(X:Cx)(e:MJ)(f:R->Me Bool):Prop:=PW X e (IR X.K f)
def noStar:MJ->Bool
 | .Starred _ _=>false
 | _=>true
theorem aE{e:MJ}(es:List MJ)(env:Env)(h:noStar e=true):starEach (e::es) env=(false,eval e env)::starEach es env:=by
 cases e<;>first | rfl | cases h
theorem cu{pos:Pos}{env:Env}:∀{es:List MJ},es.all noStar=true->(backTo pos (starEach es env)).any (·.1)=false
 | [],_=>rfl
 | e::es,h=>by
  rw[Ng,Mp] at h
  rw[aE es env h.1]
  show(false||(backTo pos (starEach es env)).any (·.1))=false
  rw[cu h.2]
  rfl
def SA(X:Cx)(es:List MJ)(f:R->Me LD):Prop:=PA X es (HU X.K f)/\(∀ ρ ds,f ρ=some ds->ds.length=es.length)/\es.all noStar=true
def SO(X:Cx)(e:Me MJ)(f:R->Me (Me Int)):Prop:=PO X e (LP X.K f)
def S1(X:Cx)(s:ML)(f:R->Me Out):Prop:=PS X s (Gr X.K f)
def SS(X:Cx)(s:List ML)(f:R->Me Out):Prop:=PSs X s (Gr X.K f)
def SG(X:Cx)(e:MJ)(st:D->R->Me R):Prop:=PG X e (LH X.K st)
def JM(X:Cx)(es:List MJ)(sts:List (D->R->Me R)):Prop:=PGs X es (Ld X.K sts)
def SI(X:Cx)(tg iter:MJ)(f:R->Me LD):Prop:=PI X tg iter (LZ X.K f)
section
variable{X:Cx}{e a b c:MJ}{es:List MJ}{pos p:Pos}
theorem _root_.L2.PE.imp{t t':TE}(h:PE X e t)(hi:∀ σ H Q,t' σ H Q->t σ H Q):PE X e t':=fun pins s σ H Q I q=>h pins s σ H Q I (hi σ H Q q)
theorem _root_.L2.PT.imp{t t':TT}(h:PT X e t)(hi:∀ σ H Q,t' σ H Q->t σ H Q):PT X e t':=fun pins s σ H Q I q=>h pins s σ H Q I (hi σ H Q q)
theorem _root_.L2.PW.imp{t t':TT}(h:PW X e t)(hi:∀ σ H Q,t' σ H Q->t σ H Q):PW X e t':=fun wh pins s σ H Q I q=>h wh pins s σ H Q I (hi σ H Q q)
theorem _root_.L2.PA.imp{t t':TA}(h:PA X es t)(hi:∀ σ H Q,t' σ H Q->t σ H Q):PA X es t':=fun pos pins s σ H Q I q=>h pos pins s σ H Q I (hi σ H Q q)
theorem _root_.L2.PO.imp{e:Me MJ}{t t':TO}(h:PO X e t)(hi:∀ σ H Q,t' σ H Q->t σ H Q):PO X e t':=fun pins s σ H Q I q=>h pins s σ H Q I (hi σ H Q q)
theorem _root_.L2.PS.imp{s:ML}{t t':TS}(h:PS X s t)(hi:∀E σ H,t' E σ H->t E σ H):PS X s t':=fun pins s σ H E I q=>h pins s σ H E I (hi E σ H q)
theorem _root_.L2.PSs.imp{s:List ML}{t t':TS}(h:PSs X s t)(hi:∀E σ H,t' E σ H->t E σ H):PSs X s t':=fun pins s σ H E I q=>h pins s σ H E I (hi E σ H q)
theorem _root_.L2.PG.imp{t t':TG}(h:PG X e t)(hi:∀v σ H Q,t' v σ H Q->t v σ H Q):PG X e t':=fun pins s σ H v u Q I r q=>h pins s σ H v u Q I r (hi v σ H Q q)
theorem _root_.L2.PGs.imp{t t':Fb}(h:PGs X es t)(hi:∀v σ H Q,t' v σ H Q->t v σ H Q):PGs X es t':=fun pins s σ H v u Q I r q=>h pins s σ H v u Q I r (hi v σ H Q q)
theorem _root_.L2.PI.imp{tg:MJ}{t t':TI}(h:PI X tg e t)(hi:∀ σ H Q,t' σ H Q->t σ H Q):PI X tg e t':=fun pins s σ H W I q=>h pins s σ H W I (hi σ H W q)
theorem i9{α β:Type}{o:Me α}{f:α->Me β}{y:β}(h:o.bind f=some y):∃x,o=some x/\f x=some y:=by
 cases o with
 | none=>cases h
 | some x=>exact⟨x,rfl,h⟩
theorem rm{α β:Type}{o:Me α}{f:α->β}{y:β}(h:o.map f=some y):∃x,o=some x/\f x=y:=by
 cases o with
 | none=>cases h
 | some x=>exact⟨x,rfl,ME h⟩
theorem ad(i:Nat){x:Str}(hN:X.N[i]?=some x:=by rfl)(hv:BS X.env.scope x:=by first | exact Or.inl rfl | exact Or.inr (Or.inl rfl) | exact Or.inr (Or.inr rfl))(hd:(x==("__debug__" : Str))=false:=by decide)
  (hcd:(x==("__classdict__" : Str))=false:=by decide):SE X (.Name x pos) (i5 i):=(li hN hv hd hcd).imp fun σ H Q ⟨ρ,d,er,e,q⟩=>by
 obtain⟨v,h1,h2⟩:=er.at e
 exact⟨v,h1,q v H (l0.refl H) h2⟩
theorem ae{i j}:SE X (.Constant (.int i) j pos) (kI i):=GS.imp fun σ H Q ⟨ρ,d,er,e,q⟩=>by
 cases e
 exact q _ H (l0.refl H) rfl
theorem dW{b j}:SE X (.Constant (.bool b) j pos) (fun _=>some (.bl b)):=Jh.imp fun σ H Q ⟨ρ,d,er,e,q⟩=>by
 cases e
 exact q _ H (l0.refl H) rfl
theorem aO{j}:SE X (.Constant .none j pos) (fun _=>some .non):=HC.imp fun σ H Q ⟨ρ,d,er,e,q⟩=>by
 cases e
 exact q _ H (l0.refl H) rfl
theorem aF{x j}:SE X (.Constant (.str x) j pos) (fun _=>some (.str x)):=Hr.imp fun σ H Q ⟨ρ,d,er,e,q⟩=>by
 cases e
 exact q _ H (l0.refl H) rfl
def sj(K:Mj)(mg:Str->Me Mg)(x:Str)(d:D):Prop:=∃u v,mg x=some u/\RelV v u/\∀H,Rep K H d v
theorem au{x:Str}{d:D}(h:sj X.K X.mg x d)(hg:Gl X x:=by rfl)(hd:(x==("__debug__" : Str))=false:=by decide):SE X (.Name x pos) (fun _=>some d):=by
 obtain⟨u,v,hm,r,hr⟩:=h
 exact(jH hg hm r hd).imp fun σ H Q ⟨ρ,d',er,e,q⟩=>by
  cases e
  exact q v H (l0.refl H) (hr H)
def HX(X:Cx)(f:Mg->Mg->Sem Mg)(F:D->D->OD):Prop:=
 OpR X f fun x y H Q=>∃dx dy d,Rep X.K H dx x/\Rep X.K H dy y/\F dx dy=some d/\∀v H',l0 H H'->Rep X.K H' d v->Q v H'
def BK(X:Cx)(op:CmpOp)(F:D->D->Me Bool):Prop:=
 OpR X (compareOp op) fun x y H Q=>∃dx dy b,Rep X.K H dx x/\Rep X.K H dy y/\F dx dy=some b/\Q (.bl b) H
def Lr(X:Cx)(f:Mg->Sem Mg)(F:D->OD):Prop:=
 UnR X f fun x H Q=>∃dx d,Rep X.K H dx x/\F dx=some d/\∀v H',l0 H H'->Rep X.K H' d v->Q v H'
def Jy(X:Cx)(f:Mg)(F:LD->OD):Prop:=
 CallR X f fun xs H Q=>∃ds d,k9 X.K H ds xs/\F ds=some d/\∀v H',l0 H H'->Rep X.K H' d v->Q v H'
theorem _root_.L2.OpR.imp{f:Mg->Mg->Sem Mg}{r r':R2}(h:OpR X f r)(hi:∀x y H Q,r' x y H Q->r x y H Q):OpR X f r':=fun pins s σ H x y v u Q I rx ry q=>h pins s σ H x y v u Q I rx ry (hi x y H Q q)
theorem _root_.L2.UnR.imp{f:Mg->Sem Mg}{r r':V->Hp->VK->Prop}(h:UnR X f r)(hi:∀x H Q,r' x H Q->r x H Q):UnR X f r':=fun pins s σ H x v Q I rx q=>h pins s σ H x v Q I rx (hi x H Q q)
theorem _root_.L2.CallR.imp{f:Mg}{r r':List V->Hp->VK->Prop}(h:CallR X f r)(hi:∀x H Q,r' x H Q->r x H Q):CallR X f r':=fun pins s σ H xs us Q I rx q=>h pins s σ H xs us Q I rx (hi xs H Q q)
variable{f g h:R->OD}
theorem two{σ:L2.St}{H:Hp}{Q:VK}{F:D->D->OD}(q:tD X.K (k6 F f g) σ H Q) :
  tD X.K f σ H fun x H1=>tD X.K g σ H1 fun y H2=>∃dx dy d,Rep X.K H2 dx x/\Rep X.K H2 dy y/\F dx dy=some d/\∀v H',l0 H2 H'->Rep X.K H' d v->Q v H':=by
 obtain⟨ρ,d,er,e,q⟩:=q
 obtain⟨x,e1,e⟩:=i9 e
 obtain⟨y,e2,e⟩:=i9 e
 exact⟨ρ,x,er,e1,fun v H1 s1 r1=>⟨ρ,y,er.mono s1,e2,fun u H2 s2 r2=>⟨x,y,d,r1.mono s2,r2,e,fun w H3 s3 r3=>q w H3 (s1.trans (s2.trans s3)) r3⟩⟩⟩
theorem ao{op:Operator}{F:D->D->OD}(ho:HX X (binaryOp op) F)(ha:SE X a f)(hb:SE X b g):SE X (.BinOp a op b pos) (k6 F f g):=(qt ho ha hb).imp fun σ H Q q=>two q
theorem qE{op:UnaryOp}{F:D->OD}(ho:Lr X (unaryOp op) F)(ha:SE X a f):SE X (.UnaryOp op a pos) (v9 F f):=(qC ho ha).imp fun σ H Q ⟨ρ,d,er,e,q⟩=>by
 obtain⟨x,e1,e⟩:=i9 e
 exact⟨ρ,x,er,e1,fun v H1 s1 r1=>⟨x,d,r1,e,fun w H2 s2 r2=>q w H2 (s1.trans s2) r2⟩⟩
theorem KH{σ:L2.St}{H:Hp}{Q:Bool->Hp->Prop}{F:D->D->Me Bool}(q:IR X.K (m6 F f g) σ H Q) :
  tD X.K f σ H fun x H1=>tD X.K g σ H1 fun y H2=>∃dx dy b,Rep X.K H2 dx x/\Rep X.K H2 dy y/\F dx dy=some b/\Q b H2:=by
 obtain⟨ρ,d,er,e,q⟩:=q
 obtain⟨x,e1,e⟩:=i9 e
 obtain⟨y,e2,e⟩:=i9 e
 exact⟨ρ,x,er,e1,fun v H1 s1 r1=>⟨ρ,y,er.mono s1,e2,fun u H2 s2 r2=>⟨x,y,d,r1.mono s2,r2,e,q H2 (s1.trans s2)⟩⟩⟩
theorem GR{σ:L2.St}{H:Hp}{Q:VK}{f:R->Me Bool}(q:tD X.K (AR f) σ H Q):IR X.K f σ H fun b H'=>Q (.bl b) H':=by
 obtain⟨ρ,d,er,e,q⟩:=q
 obtain⟨x,e1,e⟩:=rm e
 subst e
 exact⟨ρ,x,er,e1,fun H1 s1=>q _ H1 s1 rfl⟩
theorem eC{op:CmpOp}{F:D->D->Me Bool}(ho:BK X op F)(ha:SE X a f)(hb:SE X b g)(hm:behindInMarks op b=false:=by first | exact Bc _ | with_unfolding_all rfl) :
  SE X (.Compare a [op] [b] pos) (AR (m6 F f g)):=(oW ho ha hb hm).imp fun σ H Q q=>KH (GR q)
theorem aB{op:CmpOp}{F:D->D->Me Bool}(ho:BK X op F)(ha:SE X a f)(hb:SE X b g)(hm:behindInMarks op b=false:=by first | exact Bc _ | with_unfolding_all rfl) :
  ST X (.Compare a [op] [b] pos) (m6 F f g):=(lQ ho ha hb hm).imp fun σ H Q q=>by
 obtain⟨ρ,d,er,e,q⟩:=q
 obtain⟨x,e1,e⟩:=i9 e
 obtain⟨y,e2,e⟩:=i9 e
 exact⟨ρ,x,er,e1,fun v H1 s1 r1=>⟨ρ,y,er.mono s1,e2,fun u H2 s2 r2=>⟨x,y,d,r1.mono s2,r2,e,d,rfl,q H2 (s1.trans s2)⟩⟩⟩
theorem ET{H:Hp}{d:D}{v:V}{b:Bool}{K:Mj}(r:Rep K H d v)(e:GL d=some b):Hk K v H b:=by
 cases d with
 | non=>cases (show v=_ from r);cases e;exact rfl
 | bl c=>cases (show v=_ from r);cases e;exact rfl
 | int i=>cases (show v=_ from r);cases e;exact rfl
 | str x =>
  cases (show v=_ from r)
  unfold GL at e
  dsimp only at e
  split at e
  ·rename_i hx
   cases e
   exact⟨hx,rfl⟩
  ·cases e
 | tup ds =>
  obtain⟨a,xs,rfl,q,t⟩:=r
  cases e
  refine .inr (.inl ⟨xs,q,?_⟩)
  cases ds with
  | nil=>cases (show xs=[] from t);rfl
  | cons d ds=>obtain⟨_,_,rfl,_⟩:=t;rfl
 | lst ds =>
  obtain⟨a,xs,rfl,q,t⟩:=r
  cases e
  refine .inl ⟨xs,ua.of q,?_⟩
  cases ds with
  | nil=>cases (show xs=[] from t);rfl
  | cons d ds=>obtain⟨_,_,rfl,_⟩:=t;rfl
 | fro ds =>
  obtain⟨a,xs,rfl,q,t⟩:=r
  cases e
  refine .inl ⟨xs,q,?_⟩
  cases ds with
  | nil=>cases (show xs=[] from t);rfl
  | cons d ds=>obtain⟨_,_,rfl,_⟩:=t;rfl
 | obj k a ks ds=>cases e
 | rf a=>cases e
theorem dm(ha:SE X a f)(he:∀whole,isTrue a X.env whole=(do let v <- whole;standAt a.pos;holding [v] (truthy v)):=by intro _;rfl):ST X a (vC f):=(nH ha he).imp fun σ H Q ⟨ρ,b,er,e,q⟩=>by
 obtain⟨x,e1,e⟩:=i9 e
 exact⟨ρ,x,er,e1,fun v H1 s1 r1=>⟨b,ET r1 e,q H1 s1⟩⟩
variable{s t:R->Me Bool}{rest:List MJ}
theorem eV{e:MJ}(h:SW X e s):ST X e s:=PW.pt h
theorem gP(ha:ST X a s):SW X (.BoolOp .And [a] pos) s:=BJ ha
theorem f_(ha:ST X a s):SW X (.BoolOp .Or [a] pos) s:=HN ha
theorem j6(ha:ST X a s)(hb:SW X (.BoolOp .And (b::rest) pos) t):SW X (.BoolOp .And (a::b::rest) pos) (yr s t):=(DU ha hb).imp fun σ H Q ⟨ρ,k,er,e,q⟩=>by
 obtain⟨x,e1,e⟩:=i9 e
 refine⟨ρ,x,er,e1,fun H1 s1=>?_⟩
 cases x with
 | false=>cases e;rw[Mx Mt];exact q H1 s1
 | true=>rw[Mo rfl] at e ⊢;exact⟨ρ,k,er.mono s1,e,fun H2 s2=>q H2 (s1.trans s2)⟩
theorem hW(ha:ST X a s)(hb:SW X (.BoolOp .Or (b::rest) pos) t):SW X (.BoolOp .Or (a::b::rest) pos) (AA s t):=(JB ha hb).imp fun σ H Q ⟨ρ,k,er,e,q⟩=>by
 obtain⟨x,e1,e⟩:=i9 e
 refine⟨ρ,x,er,e1,fun H1 s1=>?_⟩
 cases x with
 | true=>cases e;rw[Mo rfl];exact q H1 s1
 | false=>rw[Mx Mt] at e ⊢;exact⟨ρ,k,er.mono s1,e,fun H2 s2=>q H2 (s1.trans s2)⟩
theorem jw(ha:ST X a s):ST X (.UnaryOp .Not a pos) (AO s):=(pT ha).imp fun σ H Q ⟨ρ,k,er,e,q⟩=>by
 obtain⟨x,e1,e⟩:=rm e
 subst e
 exact⟨ρ,x,er,e1,fun H1 s1=>q H1 s1⟩
theorem jS{op}(ha:SE X a f):SE X (.BoolOp op [a] pos) f:=pR ha
theorem iA(ha:SE X a f)(hb:SE X (.BoolOp .And (b::rest) pos) g):SE X (.BoolOp .And (a::b::rest) pos) (zm f g):=(pZ ha hb).imp fun σ H Q ⟨ρ,d,er,e,q⟩=>by
 obtain⟨x,e1,e⟩:=i9 e
 refine⟨ρ,x,er,e1,fun v H1 s1 r1=>?_⟩
 cases x with
 | bl c =>
  cases (show v=_ from r1)
  refine⟨c,rfl,?_⟩
  cases c with
  | false=>cases e;rw[Mx Mt];exact q _ H1 s1 rfl
  | true=>rw[Mo rfl];exact⟨ρ,d,er.mono s1,e,fun v H2 s2 r2=>q v H2 (s1.trans s2) r2⟩
 | _=>cases e
theorem jJ(ha:SE X a f):SE X (.UnaryOp .Not a pos) (A1 f):=(qh ha).imp fun σ H Q ⟨ρ,d,er,e,q⟩=>by
 obtain⟨x,e1,e⟩:=i9 e
 refine⟨ρ,x,er,e1,fun v H1 s1 r1=>?_⟩
 cases x with
 | bl c =>
  cases (show v=_ from r1)
  cases e
  exact⟨c,rfl,q _ H1 s1 rfl⟩
 | _=>cases e
theorem eS(hc:ST X c s)(ha:SE X a f)(hb:SE X b g):SE X (.IfExp c a b pos) (AW s f g):=(n_ hc ha hb).imp fun σ H Q ⟨ρ,d,er,e,q⟩=>by
 obtain⟨x,e1,e⟩:=i9 e
 refine⟨ρ,x,er,e1,fun H1 s1=>?_⟩
 cases x with
 | true=>rw[Mo rfl] at e ⊢;exact⟨ρ,d,er.mono s1,e,fun v H2 s2 r2=>q v H2 (s1.trans s2) r2⟩
 | false=>rw[Mx Mt] at e ⊢;exact⟨ρ,d,er.mono s1,e,fun v H2 s2 r2=>q v H2 (s1.trans s2) r2⟩
variable{F:R->Me LD}
theorem af:SA X [] i7:=⟨DT.imp fun σ H Q ⟨ρ,d,er,e,q⟩=>by cases e;exact q [] H (l0.refl H) rfl,fun ρ ds e=>by cases e;rfl,rfl⟩
theorem ac(ha:SE X e f)(hr:SA X es F)(hs:noStar e=true:=by rfl):SA X (e::es) (i4 f F):=⟨(lO ha hr.1 (aE es X.env hs)).imp fun σ H Q ⟨ρ,ds,er,e,q⟩=>by
 obtain⟨x,e1,e⟩:=i9 e
 obtain⟨y,e2,e⟩:=rm e
 subst e
 exact⟨ρ,x,er,e1,fun v H1 s1 r1=>⟨ρ,y,er.mono s1,e2,fun vs H2 s2 r2=>q _ H2 (s1.trans s2) (k9.cons (r1.mono s2) r2)⟩⟩,fun ρ ds e=>by
 obtain⟨x,e1,e⟩:=i9 e
 obtain⟨y,e2,e⟩:=rm e
 subst e
 simp[hr.2.1 ρ y e2],by rw[Ng,hs,hr.2.2];rfl⟩
theorem bf{H:Hp}{p:Ml}(h:H p=none)(o:HO):l0 H (upd H p o):=fun b u q=>by rw[ar (rq q h)];exact q
theorem aw{k}(h:SA X es F)(hl:Nat.ble es.length 1000=true:=by rfl):SE X (.Tuple es k pos) (n8 F):=(qi h.1).imp fun σ H Q ⟨ρ,d,er,e,q⟩=>by
 obtain⟨ds,e1,e⟩:=rm e
 subst e
 refine⟨ρ,ds,er,e1,fun vs H1 s1 r1=>⟨?_,fun p hp=>?_⟩⟩
 ·rw[<- r1.length,h.2.1 ρ ds e1];exact Nat.le_of_lt (wC (Nat.le_of_ble_eq_true hl))
 ·have s2:=bf hp (.tup vs)
  exact q _ _ (s1.trans s2) ⟨p,vs,rfl,uT.of ay,r1.mono s2⟩
theorem jB(h:SA X es F)(hl:Nat.ble es.length 1000=true:=by rfl):SE X (.List es pos) (CG F):=(kY h.1).imp fun σ H Q ⟨ρ,d,er,e,q⟩=>by
 obtain⟨ds,e1,e⟩:=rm e
 subst e
 refine⟨ρ,ds,er,e1,fun vs H1 s1 r1=>⟨?_,fun p hp=>?_⟩⟩
 ·rw[<- r1.length,h.2.1 ρ ds e1];exact Nat.le_of_lt (wC (Nat.le_of_ble_eq_true hl))
 ·have s2:=bf hp (.lst vs)
  exact q _ _ (s1.trans s2) ⟨p,vs,rfl,ay,r1.mono s2⟩
structure n6 (P:Mv) (w:MH) (K:Mj) (mg:Str->Me Mg) (base:MI) (k:Nat) (x:Str) (ps:List Str) (F:LD->OD):Prop where
 ex:∃f fd,l7 P w K mg base q8 k f fd ps (rL K F)/\mg x=some (.ref f)/\W.keepIn K (.ref f)=true/\Binds K fd ps []
theorem n6.mono{P:Mv}{w:MH}{K:Mj}{mg:Str->Me Mg}{base:MI}{j k:Nat}{x:Str}{ps:List Str}{F:LD->OD}(h:n6 P w K mg base j x ps F)(hk:j<=k):n6 P w K mg base k x ps F:=by
 obtain⟨f,fd,a,b⟩:=h.ex
 exact⟨f,fd,a.mono hk,b⟩
theorem n6.imp{P:Mv}{w:MH}{K:Mj}{mg:Str->Me Mg}{base:MI}{k:Nat}{x:Str}{ps:List Str}{F G:LD->OD}(h:n6 P w K mg base k x ps F)(hi:∀ds d,G ds=some d->F ds=some d):n6 P w K mg base k x ps G:=by
 obtain⟨f,fd,a,b⟩:=h.ex
 exact⟨f,fd,a.imp fun vs H Q E ⟨ds,d,r,e,q⟩=>⟨ds,d,r,hi ds d e,q⟩,b⟩
theorem ai{k:Nat}{x:Str}{ps:List Str}{G:LD->OD}(C:n6 X.prog X.w X.K X.mg X.base k x ps G)(hr:ri k X.A)(ha:SA X (e::es) F)(hg:Gl X x:=by rfl)
  (hdb:(x==("__debug__" : Str))=false:=by decide) :
  SE X (.Call (.Name x p) (e::es) [] pos) (i8 G F):=by
 have hst:=ha.2.2
 rw[Ng,Mp] at hst
 have he:=aE es X.env hst.1
 have hpl:=cu (pos:=pos) (env:=X.env) hst.2
 obtain⟨f,fd,a,m,kp,bd⟩:=C.ex
 refine(jO a hr hg m kp bd .nil wZ ha.1 hdb he hpl).imp fun σ H Q ⟨ρ,d,er,e,q⟩=>?_
 obtain⟨ds,e1,e⟩:=i9 e
 exact⟨ρ,ds,er,e1,fun vs H1 s1 r1=>⟨ds,d,by rw[M5];exact r1,e,fun v H2 s2 r2=>q v H2 (s1.trans s2) r2⟩⟩
theorem bF{x:Str}{id:String}{G:LD->OD}(hc:Jy X (.builtin id) G)(hm:X.mg x=none)(ha:SA X (e::es) F)(hv:bootBuiltins x=some (.builtin id):=by kernel_rfl)(hg:Gl X x:=by rfl)(hn:x ≠ "__name__":=by decide)(hdb:(x==("__debug__" : Str))=false:=by decide):SE X (.Call (.Name x p) (e::es) [] pos) (i8 G F):=
 (nU hc hg hm hv ha.1 hn hdb (aE es X.env (M3.mp ha.2.2 e M4)) (cu (M3.mpr fun x hx=>M3.mp ha.2.2 x (MV _ hx)))).imp fun σ H Q ⟨ρ,d,er,e,q⟩=>by
  obtain⟨ds,e1,e⟩:=i9 e
  exact⟨ρ,ds,er,e1,fun vs H1 s1 r1=>⟨ds,d,r1,e,fun v H2 s2 r2=>q v H2 (s1.trans s2) r2⟩⟩
theorem il{x:Str}{T:String}{G:LD->OD}(hc:Jy X (.type T) G)(hm:X.mg x=none)(ha:SA X (e::es) F)(hv:bootBuiltins x=some (.type T):=by kernel_rfl)(hg:Gl X x:=by rfl)(hn:x ≠ "__name__":=by decide)(hdb:(x==("__debug__" : Str))=false:=by decide):SE X (.Call (.Name x p) (e::es) [] pos) (i8 G F):=
 (mL hc hg hm hv ha.1 hn hdb (aE es X.env (M3.mp ha.2.2 e M4)) (cu (M3.mpr fun x hx=>M3.mp ha.2.2 x (MV _ hx)))).imp fun σ H Q ⟨ρ,d,er,e,q⟩=>by
  obtain⟨ds,e1,e⟩:=i9 e
  exact⟨ρ,ds,er,e1,fun vs H1 s1 r1=>⟨ds,d,r1,e,fun v H2 s2 r2=>q v H2 (s1.trans s2) r2⟩⟩
def LS(X:Cx)(F:D->D->OD):Prop:=IxR X fun x y H Q=>∃dx dy d,Rep X.K H dx x/\Rep X.K H dy y/\F dx dy=some d/\∀v H',l0 H H'->Rep X.K H' d v->Q v H'
theorem _root_.L2.IxR.imp{r r':R2}(h:IxR X r)(hi:∀x y H Q,r' x y H Q->r x y H Q):IxR X r':=fun value slice pins s σ H x y v u Q I rx ry q hs=>h value slice pins s σ H x y v u Q I rx ry (hi x y H Q q) hs
theorem HH(n:Nat)(i:Int):Ig n i=ID n i:=rfl
theorem zJ{K:Mj}{H:Hp}{ds:LD}{xs:List V}{i:Int}{d:D}(r:k9 K H ds xs)(e:Cj ds i=some d):∃v,Hy xs i=some v/\Rep K H d v:=by
 obtain⟨j,e1,e2⟩:=i9 e
 obtain⟨v,h1,h2⟩:=r.get e2
 refine⟨v,?_,h2⟩
 unfold Hy
 rw[<- r.length,<- HH,e1]
 exact h1
theorem K_:LS X l4:=(E3.or (HI.or GT)).imp fun x y H Q ⟨dx,dy,d,r1,r2,e,q⟩=>by
 cases dx with
 | tup ds =>
  cases dy with
  | int i =>
   obtain⟨a,xs,e1,hq,t⟩:=r1
   cases (show y=_ from r2)
   obtain⟨v,h1,h2⟩:=zJ t e
   exact .inr (.inl ⟨a,xs,i,v,e1,rfl,hq,h1,q v H (l0.refl H) h2⟩)
  | _=>cases e
 | lst ds =>
  cases dy with
  | int i =>
   obtain⟨a,xs,e1,hq,t⟩:=r1
   cases (show y=_ from r2)
   obtain⟨v,h1,h2⟩:=zJ t e
   exact .inl ⟨a,xs,i,v,e1,rfl,ua.of hq,h1,q v H (l0.refl H) h2⟩
  | _=>cases e
 | fro ds =>
  cases dy with
  | int i =>
   obtain⟨a,xs,e1,hq,t⟩:=r1
   cases (show y=_ from r2)
   obtain⟨v,h1,h2⟩:=zJ t e
   exact .inl ⟨a,xs,i,v,e1,rfl,hq,h1,q v H (l0.refl H) h2⟩
  | _=>cases e
 | str z =>
  cases dy with
  | int i =>
   cases (show x=_ from r1)
   cases (show y=_ from r2)
   unfold l4 at e
   dsimp only at e
   split at e
   ·rename_i hz
    obtain⟨c,e1,e2⟩:=rm e
    subst e2
    exact .inr (.inr ⟨z,i,c,rfl,rfl,hz,(by rw[<- e1];rfl),q _ H (l0.refl H) rfl⟩)
   ·cases e
  | _=>cases e
 | _=>cases e
theorem ag(ha:SE X a f)(hb:SE X b g)(hs:zy b:=by intro _ _;rfl):SE X (.Subscript a b pos) (k6 l4 f g):=(pH K_ ha hb hs).imp fun σ H Q q=>two q
variable{st:ML}{sts:List ML}{u w:R->Me Out}
theorem aV:SS X [] rg:=xy.imp fun E σ H ⟨ρ,τ,o,er,e,q⟩=>by
 cases e
 exact q H (l0.refl H) σ er
theorem Hd{E:Ends}{σ:L2.St}{H:Hp}{K:Mj}(q:Gr K (l8 u w) E σ H):Gr K u {E with nx:=Gr K w E} σ H:=by
 obtain⟨ρ,τ,o,er,e,q⟩:=q
 obtain⟨o1,e1,e⟩:=i9 e
 refine⟨ρ,τ,o1,er,e1,fun H1 s1=>?_⟩
 cases o1 with
 | nx ρ2=>exact fun σ2 er2=>⟨ρ2,τ,o,er2,e,fun H2 s2=>q H2 (s1.trans s2)⟩
 | rt d=>cases e;exact q H1 s1
 | bk ρ2=>cases e;exact q H1 s1
 | ct ρ2=>cases e;exact q H1 s1
theorem aj(h1:S1 X st u)(h2:SS X sts w):SS X (st::sts) (l8 u w):=(d_ h1 h2).imp fun E σ H q=>Hd q
theorem al(h1:S1 X st u):SS X [st] u:=eP h1
theorem av(ha:SE X a f):S1 X (.Return (some a) pos) (m7 f):=(lB ha).imp fun E σ H ⟨ρ,τ,o,er,e,q⟩=>by
 obtain⟨x,e1,e⟩:=rm e
 subst e
 exact⟨ρ,x,er.1,e1,fun v H1 s1 r1=>q H1 s1 v r1⟩
theorem cB{B1 B2:List ML}(hc:ST X c s)(ha:SS X B1 u)(hb:SS X B2 w):S1 X (.If c B1 B2 pos) (vO s u w):=(j7 hc ha hb).imp fun E σ H ⟨ρ,τ,o,er,e,q⟩=>by
 obtain⟨x,e1,e⟩:=i9 e
 refine⟨ρ,x,er.1,e1,fun H1 s1=>?_⟩
 cases x with
 | true=>rw[Mo rfl] at e ⊢;exact⟨ρ,τ,o,er.mono s1,e,fun H2 s2=>q H2 (s1.trans s2)⟩
 | false=>rw[Mx Mt] at e ⊢;exact⟨ρ,τ,o,er.mono s1,e,fun H2 s2=>q H2 (s1.trans s2)⟩
theorem ak(i:Nat){x:Str}(hN:X.N.Nodup)(hi:X.N[i]?=some x:=by rfl)(hx:Loc X.env.scope x:=by first | exact Or.inl rfl | exact Or.inr rfl)(hf:X.fn x=true\/X.env.scope.names.lookup x=some .local:=by first | exact .inl rfl | exact .inr rfl) :
  SG X (.Name x pos) (setAt i):=(oY hN hi hx hf).imp fun v σ H Q ⟨ρ,τ,d,ρ',er,r,e,q⟩=>by
 unfold setAt at e
 split at e
 ·rename_i hlt
  cases e
  exact q _ H (l0.refl H) (er.set hlt r)
 ·cases e
variable{stf:D->R->Me R}{stfs:List (D->R->Me R)}
theorem jG:JM X [] []:=Fq.imp fun v σ H Q ⟨ρ,τ,ds,ρ',er,r,e,q⟩=>by
 cases ds with
 | nil=>cases e;exact⟨r,q σ H (l0.refl H) er⟩
 | cons d ds=>cases e
theorem cW(h1:SG X e stf)(h2:JM X es stfs)(hs:(assignEach (e::es) X.env).map (·.2)=assign e X.env::(assignEach es X.env).map (·.2):=by rfl):JM X (e::es) (stf::stfs):=
 (Ea h1 h2 hs).imp fun v σ H Q ⟨ρ,τ,ds,ρ',er,r,e,q⟩=>by
  cases ds with
  | nil=>cases e
  | cons d ds =>
   obtain⟨v1,vr,rfl,r1,rr⟩:=r
   obtain⟨ρ1,e1,e⟩:=i9 e
   exact⟨v1,vr,rfl,ρ,τ,d,ρ1,er,r1,e1,fun σ1 H1 s1 er1=>⟨ρ1,τ,ds,ρ',er1,rr.mono s1,e,fun σ2 H2 s2 er2=>q σ2 H2 (s1.trans s2) er2⟩⟩
theorem yK:∀{fs:List (D->R->Me R)} {ds:LD} {ρ ρ':R},Ab fs ds ρ=some ρ'->ds.length=fs.length
 | [],[],_,_,_=>rfl
 | [],_::_,_,_,e=>by cases e
 | _::_,[],_,_,e=>by cases e
 | f::fs,d::ds,_,_,e=>by
  obtain⟨_,_,e⟩:=i9 e
  simp[yK e]
theorem lh{k}(hc:X.calm=true)(h:JM X es stfs)(hn:(assignEach es X.env).length=stfs.length:=by rfl)(hst:(assignEach es X.env).findIdx? (·.1)=none:=by rfl):SG X (.Tuple es k pos) (AN stfs):=
 (pS hc h hn hst).imp fun v σ H Q ⟨ρ,τ,d,ρ',er,r,e,q⟩=>by
  cases d with
  | tup ds =>
   obtain⟨a,xs,e1,hq,t⟩:=r
   exact⟨a,xs,e1,hq,by rw[<- t.length];exact yK e,ρ,τ,ds,ρ',er,t,e,q⟩
  | _=>cases e
theorem aA{tg:MJ}(ha:SE X a f)(hg:SG X tg stf)(hs:swapsWithSole [tg] a pos.line X.env=pure false:=by rfl)(hw:swappedStores [tg] a X.env=pure none:=by rfl)(h1:(assignEach [tg] X.env).map (·.2)=[assign tg X.env]:=by rfl) :
  S1 X (.Assign [tg] a pos) (n5 f stf):=(pQ ha hg hs hw h1).imp fun E σ H ⟨ρ,τ,o,er,e,q⟩=>by
 obtain⟨x,e1,e⟩:=i9 e
 obtain⟨ρ',e2,e⟩:=rm e
 subst e
 exact⟨ρ,x,er.1,e1,fun v H1 s1 r1=>⟨ρ,τ,x,ρ',er.mono s1,r1,e2,fun σ2 H2 s2 er2=>q H2 (s1.trans s2) σ2 er2⟩⟩
theorem Kp.of{H H':Hp}(s:l0 H H'):Kp H H':=fun b u e _=>s b u e
theorem Kp.refl(H:Hp):Kp H H:=fun _ _ e _=>e
theorem Kp.seq{K:Mj}{H H':Hp}{a:Ml}{xs:List V}(s:Kp H H')(h:ua K H a xs):ua K H' a xs:=by
 rcases h with (h | ⟨o,h⟩) | h
 ·exact .inl (.inl (s _ _ h fun φ z=>nomatch z))
 ·exact .inl (.inr ⟨o,s _ _ h fun φ z=>nomatch z⟩)
 ·exact .inr h
theorem Kp.tup{K:Mj}{H H':Hp}{a:Ml}{xs:List V}(s:Kp H H')(h:uT K H a xs):uT K H' a xs:=by
 rcases h with (h | ⟨o,h⟩) | h
 ·exact .inl (.inl (s _ _ h fun φ z=>nomatch z))
 ·exact .inl (.inr ⟨o,s _ _ h fun φ z=>nomatch z⟩)
 ·exact .inr h
mutual
theorem Rep.kp{K:Mj}{H H':Hp}(s:Kp H H'):∀{d:D} {v:V},Rep K H d v->Rep K H' d v
 | .non,_,h=>h
 | .bl _,_,h=>h
 | .int _,_,h=>h
 | .str _,_,h=>h
 | .tup ds,_,h=>by
  obtain⟨a,xs,e,q,r⟩:=h
  exact⟨a,xs,e,s.tup q,k9.kp s r⟩
 | .lst ds,_,h=>by
  obtain⟨a,xs,e,q,r⟩:=h
  exact⟨a,xs,e,s _ _ q (fun φ z=>by cases z),k9.kp s r⟩
 | .fro ds,_,h=>by
  obtain⟨a,xs,e,q,r⟩:=h
  exact⟨a,xs,e,s.seq q,k9.kp s r⟩
 | .obj k a ks ds,_,h=>by
  obtain⟨xs,e,q,r⟩:=h
  exact⟨xs,e,q.to fun u z n=>s _ u z n,k9.kp s r⟩
 | .rf _,_,h=>h
theorem k9.kp{K:Mj}{H H':Hp}(s:Kp H H'):∀{ds:LD} {vs:List V},k9 K H ds vs->k9 K H' ds vs
 | [],_,h=>h
 | d::ds,_,h=>by
  obtain⟨v,r,e,q,t⟩:=h
  exact⟨v,r,e,Rep.kp s q,k9.kp s t⟩
end
theorem qV.kp{K:Mj}{H H':Hp}{ρ:R}{σ:L2.St}(e:qV K H ρ σ)(s:Kp H H'):qV K H' ρ σ:=⟨e.1,fun i d h=>let ⟨v,a,b⟩:=e.2 i d h;⟨v,a,b.kp s⟩⟩
theorem qP.kp{K:Mj}{H H':Hp}{ρ:R}{τ σ:L2.St}(e:qP K H ρ τ σ)(s:Kp H H'):qP K H' ρ τ σ:=⟨e.1.kp s,e.2⟩
theorem gu{K:Mj}{H:Hp}{a:Ml}{ds:LD}{xs:List V}(hq:ua K H a xs)(t:k9 K H ds xs):sV K (Kd K a) ds H:=by
 refine⟨fun i d H2 s2 e=>?_,fun i H2 s2 hl=>⟨xs,s2.seq hq,by rw[<- t.length];exact hl⟩⟩
 obtain⟨v,h1,h2⟩:=t.get e
 refine⟨⟨xs,v,s2.seq hq,h1⟩,fun x H3 ⟨e3,y⟩=>?_⟩
 subst e3
 have:=(y xs (s2.seq hq)).symm.trans h1
 cases this
 exact⟨l0.refl _,h2.kp s2⟩
theorem la{K:Mj}{H:Hp}{a:Ml}{ds:LD}{xs:List V}(hq:uT K H a xs)(t:k9 K H ds xs):sV K (Kx K a) ds H:=by
 refine⟨fun i d H2 s2 e=>?_,fun i H2 s2 hl=>⟨xs,s2.tup hq,by rw[<- t.length];exact hl⟩⟩
 obtain⟨v,h1,h2⟩:=t.get e
 refine⟨⟨xs,v,s2.tup hq,h1⟩,fun x H3 ⟨e3,y⟩=>?_⟩
 subst e3
 have:=(y xs (s2.tup hq)).symm.trans h1
 cases this
 exact⟨l0.refl _,h2.kp s2⟩
theorem DG{a b:Int}{i:Nat}{d:D}(e:(tH a b)[i]?=some d):i<(b - a).toNat/\d=.int (a+i):=by
 unfold tH at e
 rw[Nb] at e
 obtain⟨k,e1,e⟩:=rm e
 obtain⟨h1,h2⟩:=MG.mp e1
 rw[List.length_range] at h1
 rw[List.getElem_range] at h2
 subst h2
 exact⟨h1,e.symm⟩
theorem ig{K:Mj}{H:Hp}{a b:Int}:sV K (Ib a (b - a).toNat) (tH a b) H:=by
 refine⟨fun i d H2 s2 e=>?_,fun i H2 s2 hl=>by
  have z:(tH a b).length=(b - a).toNat:=by simp[tH]
  rw[z] at hl
  exact hl⟩
 obtain⟨h1,rfl⟩:=DG e
 refine⟨h1,fun x H3 ⟨e3,y⟩=>?_⟩
 subst e3
 exact⟨l0.refl _,y⟩
def Kb(K:Mj)(tl:TE):TI:=fun σ H W=>tl σ H fun x H1=>(∃a,x=.ref a/\(((∃xs,ua K H1 a xs)/\W (Kd K a) H1)\/((∃xs,uT K H1 a xs)/\W (Kx K a) H1)))\/∃z,x=.str z/\z.cps.all (·<128)=true/\W (Ka z) H1
theorem ly{K:Mj}{H:Hp}{x:Str}:sV K (Ka x) (chars x) H:=by
 have hl:(chars x).length=x.cps.size:=by simp[chars]
 refine⟨fun i d H2 s2 e=>?_,fun i H2 s2 h=>by rw[hl] at h;exact h⟩
 have hi:i<x.cps.size:=by rw[<- hl];exact(MG.mp e).1
 refine⟨hi,fun v H3 ⟨e3,c,h1,h2⟩=>?_⟩
 subst e3
 refine⟨l0.refl _,?_⟩
 unfold chars at e
 rw[Nb] at e
 obtain⟨c',e1,e⟩:=rm e
 have h1':x.cps.toList[i]?=some c:=by simpa using h1
 rw[h1'] at e1
 cases e1
 subst e
 exact h2
theorem nY{tg l:MJ}{tl:TE}(hl:PE X l tl):PI X tg l (Kb X.K tl):=by
 intro pins s σ H W I h
 refine qW (hl pins s σ H _ I h) fun v s1 ⟨x,H1,I1,r1,q1⟩=>?_
 rcases q1 with ⟨a,e,q1⟩ | ⟨z,e,hz,q⟩
 rotate_left
 ·subst e
  obtain⟨t,rfl⟩:=r1
  refine wpAny_pyIter_ascii hz ?_
  refine⟨s1.heap.objs.size,[s1.heap.objs.size],_,_,H1,rfl,I1.kept (t':=s1.toks) fun b o e=>Mh _ e,DH _ z t,⟨_,Mq _ rfl,rfl,rfl⟩,fun b hb=>?_,q⟩
  have e:b=s1.heap.objs.size:=by simpa using hb
  subst e
  exact I1.fpOk (Mw _) (I1.hok.fresh (Mw _))
 subst e
 cases r1
 rcases q1 with ⟨⟨xs,hq⟩,q⟩ | ⟨⟨xs,hq⟩,q⟩
 ·obtain⟨its,rv,p,hz⟩:=I1.list hq
  refine wpAny_pyIter_list p.isList ?_
  refine⟨s1.heap.objs.size,[s1.heap.objs.size],_,_,H1,rfl,I1.kept (t':=s1.toks) fun b o e=>Mh _ e,CB a _,⟨_,Mq _ rfl,rfl,rfl⟩,fun b hb=>?_,q⟩
  have e:b=s1.heap.objs.size:=by simpa using hb
  subst e
  exact I1.fpOk (Mw _) (I1.hok.fresh (Mw _))
 ·obtain⟨its,rv,p,hz⟩:=I1.tuple hq
  refine wpAny_pyIter_tuple (show s1.heap.IsTuple a its.toArray from p) ?_
  refine⟨s1.heap.objs.size,[s1.heap.objs.size],_,_,H1,rfl,I1.kept (t':=s1.toks) fun b o e=>Mh _ e,Bo a _,⟨_,Mq _ rfl,rfl,rfl⟩,fun b hb=>?_,q⟩
  have e:b=s1.heap.objs.size:=by simpa using hb
  subst e
  exact I1.fpOk (Mw _) (I1.hok.fresh (Mw _))
theorem ek{tg:MJ}(ha:SE X a f):SI X tg a (sk f):=(nY ha).imp fun σ H W ⟨ρ,ds,er,e,q⟩=>by
 obtain⟨x,e1,e⟩:=i9 e
 refine⟨ρ,x,er,e1,fun v H1 s1 r1=>?_⟩
 cases x with
 | tup xs =>
  cases e
  obtain⟨a,vs,ev,hq,t⟩:=r1
  exact .inl ⟨a,ev,.inr ⟨⟨vs,hq⟩,q _ H1 s1 (la hq t)⟩⟩
 | lst xs =>
  cases e
  obtain⟨a,vs,ev,hq,t⟩:=r1
  exact .inl ⟨a,ev,.inl ⟨⟨vs,ua.of hq⟩,q _ H1 s1 (gu (ua.of hq) t)⟩⟩
 | str z =>
  dsimp only at e
  split at e
  ·rename_i hz
   cases e
   cases (show v=_ from r1)
   exact .inr ⟨z,rfl,hz,q _ H1 s1 ly⟩
  ·cases e
 | _=>cases e
theorem gN{tg:MJ}(hm:X.mg "range" = none)(ha:SE X a f)(hg:Gl X "range":=by rfl)(hs:noStar a=true:=by rfl):SI X tg (.Call (.Name "range" p) [a] [] pos) (s_ f):=
 (iY hg hm (ac ha af hs).1 (aE [] X.env hs)).imp fun σ H W ⟨ρ,ds,er,e,q⟩=>by
  obtain⟨x,e1,e⟩:=i9 e
  cases x with
  | int j =>
   dsimp only at e
   split at e
   ·rename_i hj
    cases e
    refine⟨ρ,[.int j],er,by show(f ρ).bind _=_;rw[e1];rfl,fun vs H1 s1 r1=>?_⟩
    obtain⟨v,r,rfl,r2,r3⟩:=r1
    cases (show v=_ from r2)
    cases (show r=_ from r3)
    refine⟨j,rfl,hj.1,hj.2,q _ H1 s1 ?_⟩
    have z:=ig (K:=X.K) (H:=H1) (a:=0) (b:=j)
    rw[Int.sub_zero] at z
    exact z
   ·cases e
  | _=>cases e
theorem lR{tg iter:MJ}{B:List ML}{it:R->Me LD}(hp:PassesOwn (model X.prog X.w) X.A X.env X.xe)(hc:X.calm=true)(hi:SI X tg iter it)(hg:SG X tg stf)(hb:SS X B u)
  (hs:∀x,foldedSetIterable iter X.env x=pure x:=by intro _;rfl):S1 X (.For tg iter B [] pos) (xH it stf u):=(jn hp hc hi hg hb hs).imp fun E σ H ⟨ρ,τ,o,er,e,q⟩=>by
 obtain⟨ds,e1,e⟩:=i9 e
 refine⟨ρ,ds,er.1,e1,fun J H1 s1 y=>?_⟩
 refine⟨fun i m σ' H'=>m=ds.length - i/\i<=ds.length/\l0 H1 H'/\∃ ρ',qP X.K H' ρ' τ σ'/\xi stf u (ds.drop i) ρ'=some o,⟨ds.length,by simp,M_ _,l0.refl _,ρ,er.mono s1,by simpa using e⟩,?_⟩
 rintro i m σ' H' ⟨rfl,hi,s2,ρ',er',e'⟩
 by_cases hlt:i<ds.length
 ·refine .inr ?_
  have hd:ds[i]?=some ds[i]:=by simp[hlt]
  obtain⟨hgo,hy⟩:=y.1 i ds[i] H' (Kp.of s2) hd
  rw[Nj hlt] at e'
  obtain⟨ρ1,e2,e'⟩:=i9 e'
  obtain⟨o1,e3,e'⟩:=i9 e'
  refine⟨hgo,fun σ2 H2=>i+1<=ds.length/\l0 H1 H2/\∃ ρ',qP X.K H2 ρ' τ σ2/\xi stf u (ds.drop (i+1)) ρ'=some o,fun σ2 H2 n2=>⟨ds.length - (i+1),by omega,rfl,n2.1,n2.2⟩,fun x H3 yx=>?_⟩
  obtain⟨s3,rx⟩:=hy x H3 yx
  refine⟨ρ',τ,ds[i],ρ1,er'.mono s3,rx,e2,fun σ4 H4 s4 er4=>⟨ρ1,τ,o1,er4,e3,fun H5 s5=>?_⟩⟩
  have s15:l0 H1 H5:=s2.trans (s3.trans (s4.trans s5))
  cases o1 with
  | nx ρ2=>exact fun σ6 er6=>⟨hlt,s15,ρ2,er6,e'⟩
  | ct ρ2=>exact fun σ6 er6=>⟨hlt,s15,ρ2,er6,e'⟩
  | bk ρ2=>cases e';exact fun σ6 er6=>q H5 (s1.trans s15) σ6 er6
  | rt d=>cases e';exact q H5 (s1.trans s15)
 ·have e4:i=ds.length:=by omega
  subst e4
  rw[List.drop_length] at e'
  cases e'
  exact .inl ⟨y.2 _ H' (Kp.of s2) (Mw _),q H' (s1.trans s2) σ' er'⟩
end
theorem za{K:Mj}{H:Hp}{N:List Str}{ds:LD}{vs:List V}(r:k9 K H ds vs):qV K H (xk N.length ds) (L2.start N vs):=by
 unfold xk L2.start
 refine⟨by simp[r.length],fun i d h=>?_⟩
 by_cases hi:i<ds.length
 ·rw[Nh (by simpa using hi),Nb] at h
  obtain⟨d',e1,e⟩:=rm h
  cases e
  obtain⟨v,h1,h2⟩:=r.get e1
  exact⟨v,by rw[Nh (by rw[Ms,<- r.length];exact hi),Nb,h1];rfl,h2⟩
 ·rw[M0 (by simpa using hi),List.getElem?_replicate] at h
  split at h<;>cases h
theorem qk{P:Mv}{w:MH}{K:Mj}{mg:Str->Me Mg}{base:MI}{x qual:Str}{st:ML}{f:Ml}{fd:Nl}{N ps:List Str}{k:Nat}{F:LD->OD}{g:R->Me Out}
  (Fn:rJ K x qual st f fd) (S:k4 N ps (i6 st)) (hlen:∀ds d,F ds=some d->ds.length=ps.length)
  (hb:∀(cdv:Mg) (A:MQ) (outer:List Env) (s:Mi) (H:Hp) (E:XK),ri k (A.deeper (envOfC qual (i6 st) s.heap.objs.size f cdv))->SS (yo q8 P w K mg base N qual (i6 st) f cdv A outer s H E).nox (rG st) g)
  (hF:∀ds d,F ds=some d->w9 (g (xk N.length ds))=some d):l7 P w K mg base q8 (k+1) f fd ps (rL K F):=by
 refine Fn.ok S (fun vs H Q E h=>?_) (fun cdv A outer s H vs Q E hr h=>?_)
 ·obtain⟨ds,d,r,e,_⟩:=h
  rw[<- r.length]
  exact hlen ds d e
 ·obtain⟨ds,d,r,e,q⟩:=h
  refine⟨_,hb cdv A outer s H E hr,?_⟩
  have z:=hF ds d e
  cases ho:g (xk N.length ds) with
  | none=>rw[ho] at z;cases z
  | some o =>
   rw[ho] at z
   refine⟨xk N.length ds,_,o,(za r).t,ho,fun H1 s1=>?_⟩
   cases o with
   | rt d'=>cases (show d'=d from ME z);exact fun v rv=>q v H1 s1 rv
   | nx ρ=>cases (show D.non=d from ME z);exact fun σ _=>q .non H1 s1 rfl
   | bk ρ=>cases z
   | ct ρ=>cases z
theorem aq{P:Mv}{w:MH}{K:Mj}{mg:Str->Me Mg}{base:MI}{x qual:Str}{st:ML}{f:Ml}{fd:Nl}{N ps:List Str}{k:Nat}{n m:Nat}{g:R->Me Out}
  (Fn:rJ K x qual st f fd) (S:k4 N ps (i6 st))
  (hb:∀(cdv:Mg) (A:MQ) (outer:List Env) (s:Mi) (H:Hp) (E:XK),ri k (A.deeper (envOfC qual (i6 st) s.heap.objs.size f cdv))->SS (yo q8 P w K mg base N qual (i6 st) f cdv A outer s H E).nox (rG st) g)
  (h1:n=ps.length:=by rfl) (h2:m=N.length:=by rfl):l7 P w K mg base q8 (k+1) f fd ps (rL K (via n m g)):=by
 subst h1 h2
 exact qk Fn S (fun _ _ h=>pi h) hb fun _ _ h=>qv h
theorem az{P:Mv}{w:MH}{K:Mj}{mg:Str->Me Mg}{base:MI}{x qual:Str}{st:ML}{f:Ml}{fd:Nl}{ps:List Str}{k:Nat}{F:LD->OD}(Fn:rJ K x qual st f fd)(hm:mg x=some (.ref f))
  (hb:Binds K fd ps []) (h:l7 P w K mg base q8 k f fd ps (rL K F)):n6 P w K mg base k x ps F:=⟨f,fd,h,hm,Fn.kp,hb⟩
section
variable{X:Cx}
theorem D8{prog:Mv}{w:MH}{A:MQ}{E:Mg->Mi->Prop}{s:Mi}{t b:Ml}{ws:List Mg}{Q:Mg->Mi->Prop}(ht:IsTup s.heap t ([]:List Mg).toArray)(hb:IsTup s.heap b ws.toArray)
  (h:Q (.ref b) s):wpAny (model prog w) A (binaryOp .Add (.ref t) (.ref b)) Q E s:=by
 obtain⟨⟨cls,dd,data,sl⟩,ho,hc,n,hd⟩:=id ht
 obtain⟨⟨cls2,dd2,data2,sl2⟩,ho2,hc2,n2,hd2⟩:=id hb
 simp only at hc hd hc2 hd2
 subst hc hd hc2 hd2
 exact concat_meets ⟨_,ho,rfl⟩ ⟨_,ho2,rfl⟩ noFill_tuple_add seq_tuple_add PySem.F.slot_tuple_add PySem.F.entry_tuple_add (PySem.F.args_tuple_add_2 _ _)
  (tuple_addW0 t b ([]:List Mg).toArray ws.toArray n n2 dd dd2 sl sl2 (by simp)) ⟨ho,ho2,h⟩
theorem sQ{K:Mj}{H:Hp}{d:D}{v:V}{i:Int}(e:nI d=some i)(r:Rep K H d v):v=.int i:=by
 cases d<;>cases e
 exact r
theorem Iz{K:Mj}{H:Hp}{d:D}{v:V}{xs:LD}(e:tI d=some xs)(r:Rep K H d v):Rep K H (.tup xs) v:=by
 cases d<;>cases e
 exact r
theorem Iw{K:Mj}{H:Hp}{d:D}{v:V}{xs:LD}(e:lI d=some xs)(r:Rep K H d v):Rep K H (.lst xs) v:=by
 cases d<;>cases e
 exact r
theorem En{K:Mj}{H:Hp}{d:D}{v:V}{x:Str}(e:sI d=some x)(r:Rep K H d v):v=.str x:=by
 cases d<;>cases e
 exact r
theorem Gp{K:Mj}{H:Hp}{d:D}{v:V}{x:Bool}(e:bO d=some x)(r:Rep K H d v):v=.bl x:=by
 cases d<;>cases e
 exact r
theorem AH{α:Type}{p:Prop}[Decidable p]{x y:α}(h:(if p then some x else none)=some y):p/\x=y:=by
 split at h
 ·rename_i hp;exact⟨hp,ME h⟩
 ·cases h
theorem aD:HX X (binaryOp .Add) p6:=by
 intro pins s σ H x y v u Q I rx ry h
 obtain⟨dx,dy,d,r1,r2,e,q⟩:=h
 cases dx with
 | int i =>
  obtain⟨j,e1,rfl⟩:=rm e
  exact GP pins s σ H x y v u Q I rx ry ⟨i,j,r1,sQ e1 r2,q _ H (l0.refl H) rfl⟩
 | tup xs =>
  obtain⟨ys,e1,e⟩:=i9 e
  obtain⟨hz,rfl⟩:=AH e
  obtain⟨a,vs,rfl,hq,t⟩:=r1
  obtain⟨b,us,rfl,hq2,t2⟩:=Iz e1 r2
  cases vs with
  | nil =>
   cases rx
   cases ry
   obtain⟨its,rr1,p1,_⟩:=I.tuple hq
   obtain⟨its2,rr2,p2,_⟩:=I.tuple hq2
   cases rr1
   refine D8 p1 p2 ⟨.ref b,H,I,rfl,q _ H (l0.refl H) ⟨b,us,rfl,hq2,?_⟩⟩
   cases xs with
   | nil=>exact t2
   | cons x r=>obtain⟨_,_,z,_⟩:=t;cases z
  | cons v0 vr =>
   refine FM pins s σ H _ _ v u Q I rx ry ⟨a,b,v0::vr,us,rfl,rfl,hq,hq2,by simp,by rw[<- t.length,<- t2.length];exact hz,fun z=>?_,fun z p hp=>?_⟩
   ·subst z
    refine q _ H (l0.refl H) ⟨a,v0::vr,rfl,hq,?_⟩
    have:ys=[]:=List.length_eq_zero_iff.mp t2.length
    subst this
    rw[M5]
    exact t
   ·have s2:=bf hp (.tup (v0::vr++us))
    exact q _ _ s2 ⟨p,_,rfl,uT.of ay,(t.append t2).mono s2⟩
 | lst xs =>
  obtain⟨ys,e1,e⟩:=i9 e
  obtain⟨hz,rfl⟩:=AH e
  obtain⟨a,vs,rfl,hq,t⟩:=r1
  obtain⟨b,us,rfl,hq2,t2⟩:=Iw e1 r2
  refine HE pins s σ H _ _ v u Q I rx ry ⟨a,b,vs,us,rfl,rfl,hq,hq2,by rw[<- t.length,<- t2.length];exact hz,fun p hp=>?_⟩
  have s2:=bf hp (.lst (vs++us))
  exact q _ _ s2 ⟨p,_,rfl,ay,(t.append t2).mono s2⟩
 | str a =>
  obtain⟨b,e1,e⟩:=i9 e
  obtain⟨hz,rfl⟩:=AH e
  exact AQ pins s σ H x y v u Q I rx ry ⟨a,b,r1,En e1 r2,hz,q _ H (l0.refl H) rfl⟩
 | _=>cases e
theorem bJ:HX X (binaryOp .Sub) um:=by
 intro pins s σ H x y v u Q I rx ry h
 obtain⟨dx,dy,d,r1,r2,e,q⟩:=h
 obtain⟨i,e1,e⟩:=i9 e
 obtain⟨j,e2,rfl⟩:=rm e
 exact HJ pins s σ H x y v u Q I rx ry ⟨i,j,sQ e1 r1,sQ e2 r2,q _ H (l0.refl H) rfl⟩
theorem cL:HX X (binaryOp .Mult) vc:=by
 intro pins s σ H x y v u Q I rx ry h
 obtain⟨dx,dy,d,r1,r2,e,q⟩:=h
 obtain⟨i,e1,e⟩:=i9 e
 obtain⟨j,e2,e⟩:=i9 e
 obtain⟨hz,rfl⟩:=AH e
 refine GC pins s σ H x y v u Q I rx ry ⟨i,j,sQ e1 r1,sQ e2 r2,?_,q _ H (l0.refl H) rfl⟩
 unfold rC at hz
 rw[Bool.or_eq_true,Mp,Mp] at hz
 exact hz.imp (fun z=>⟨Nm z.1,Nm z.2⟩) fun z=>⟨Nm z.1,Nm z.2⟩
theorem bQ:HX X (binaryOp .FloorDiv) tm:=by
 intro pins s σ H x y v u Q I rx ry h
 obtain⟨dx,dy,d,r1,r2,e,q⟩:=h
 obtain⟨i,e1,e⟩:=i9 e
 obtain⟨j,e2,e⟩:=i9 e
 obtain⟨hz,rfl⟩:=AH e
 exact FV pins s σ H x y v u Q I rx ry ⟨i,j,sQ e1 r1,sQ e2 r2,hz,q _ H (l0.refl H) rfl⟩
theorem aJ:HX X (binaryOp .Mod) rk:=by
 intro pins s σ H x y v u Q I rx ry h
 obtain⟨dx,dy,d,r1,r2,e,q⟩:=h
 obtain⟨i,e1,e⟩:=i9 e
 obtain⟨j,e2,e⟩:=i9 e
 obtain⟨hz,rfl⟩:=AH e
 exact Hj pins s σ H x y v u Q I rx ry ⟨i,j,sQ e1 r1,sQ e2 r2,hz,q _ H (l0.refl H) rfl⟩
theorem pP:Lr X (unaryOp .USub) Im:=by
 intro pins s σ H x v Q I rx h
 obtain⟨dx,d,r1,e,q⟩:=h
 obtain⟨i,e1,rfl⟩:=rm e
 exact He pins s σ H x v Q I rx ⟨i,sQ e1 r1,q _ H (l0.refl H) rfl⟩
theorem JT{op:CmpOp}{p:Int->Int->Bool}{F:D->D->Me Bool}(ho:OpR X (compareOp op) (FA fun i j=>.bl (p i j)))(hF:∀x y,F x y=(nI x).bind fun i=>(nI y).map fun j=>p i j):BK X op F:=by
 intro pins s σ H x y v u Q I rx ry h
 obtain⟨dx,dy,b,r1,r2,e,q⟩:=h
 rw[hF] at e
 obtain⟨i,e1,e⟩:=i9 e
 obtain⟨j,e2,rfl⟩:=rm e
 exact ho pins s σ H x y v u Q I rx ry ⟨i,j,sQ e1 r1,sQ e2 r2,q⟩
theorem kF:BK X .Lt HL:=JT Jx fun _ _=>rfl
theorem ot:BK X .LtE G4:=JT Je fun _ _=>rfl
theorem gv:BK X .Gt CO:=JT IW fun _ _=>rfl
theorem qz:BK X .GtE Lo:=JT IU fun _ _=>rfl
theorem Cm{K:Mj}{H:Hp}{d:D}{v:V}{ys:LD}(r:Rep K H d v)(e:DS d=some ys):∃p xs,v=.ref p/\(ua K H p xs\/uT K H p xs)/\k9 K H ys xs:=by
 cases d with
 | tup ds=>cases e;obtain⟨a,xs,rfl,q,t⟩:=r;exact⟨a,xs,rfl,.inr q,t⟩
 | lst ds=>cases e;obtain⟨a,xs,rfl,q,t⟩:=r;exact⟨a,xs,rfl,.inl (ua.of q),t⟩
 | fro ds=>cases e;obtain⟨a,xs,rfl,q,t⟩:=r;exact⟨a,xs,rfl,.inl q,t⟩
 | _=>cases e
theorem xF{K:Mj}{H:Hp}{d:D}{v:V}(r:Rep K H d v):Fz d=decide (v=.non):=by
 cases d with
 | tup c=>obtain⟨_,_,rfl,_⟩:=r;rfl
 | lst c=>obtain⟨_,_,rfl,_⟩:=r;rfl
 | fro c=>obtain⟨_,_,rfl,_⟩:=r;rfl
 | obj k a ks ds=>obtain⟨_,rfl,_⟩:=r;rfl
 | rf a=>cases (show v=_ from r);rfl
 | _=>cases (show v=_ from r);rfl
theorem BQ{K:Mj}{H:Hp}{d:D}{v:V}(r:Rep K H d v)(h:Fz d=true):v=.non:=by
 rw[xF r] at h
 exact Nm h
theorem eU:BK X .Is wu:=by
 intro pins s σ H x y v u Q I rx ry h
 obtain⟨dx,dy,b,r1,r2,e,q⟩:=h
 obtain⟨h1,rfl⟩:=AH e
 exact HA pins s σ H x y v u Q I rx ry ⟨BQ r2 h1,by rw[<- xF r1];exact q⟩
theorem bU:BK X .IsNot tP:=by
 intro pins s σ H x y v u Q I rx ry h
 obtain⟨dx,dy,b,r1,r2,e,q⟩:=h
 obtain⟨k,e2,rfl⟩:=rm e
 obtain⟨h1,rfl⟩:=AH e2
 exact Fc pins s σ H x y v u Q I rx ry ⟨BQ r2 h1,by rw[<- xF r1];exact q⟩
theorem hX:Jy X (.builtin "len") wM:=zK.imp fun xs H Q ⟨ds,d,r,e,q⟩=>by
 match ds,e with
 | [x],e =>
  obtain⟨ys,e1,e2⟩:=rm e
  subst e2
  obtain⟨v,r',rfl,r1,r2⟩:=r
  cases (show r'=[] from r2)
  obtain⟨p,vs,rfl,hq,t⟩:=Cm r1 e1
  exact⟨p,vs,rfl,hq,q _ H (l0.refl H) (by show V.int _=V.int _;rw[t.length])⟩
theorem gR:Jy X (.type "tuple") zx:=yD.imp fun xs H Q ⟨ds,d,r,e,q⟩=>by
 match ds,e with
 | [.tup ys],e =>
  cases e
  obtain⟨v,r',rfl,⟨a,vs,rfl,hq,t⟩,r2⟩:=r
  cases (show r'=[] from r2)
  exact⟨a,vs,rfl,.inr ⟨hq,q _ H (l0.refl H) ⟨a,vs,rfl,hq,t⟩⟩⟩
 | [.lst ys],e =>
  cases e
  obtain⟨v,r',rfl,⟨a,vs,rfl,hq,t⟩,r2⟩:=r
  cases (show r'=[] from r2)
  exact⟨a,vs,rfl,.inl ⟨ua.of hq,fun l hl=>q _ _ (bf hl _) ⟨l,vs,rfl,uT.of ay,t.mono (bf hl _)⟩⟩⟩
theorem dv{k:Nat}(hr:ri k X.A):BK X .Eq uV:=by
 intro pins s σ H x y v u Q I rx ry h
 obtain⟨dx,dy,b,r1,r2,e,q⟩:=h
 have sc:E7 x y=true->decide (x=y)=b->wpAny (model X.prog X.w) X.A (compareOp .Eq v u) (EP X pins σ Q) X.xe s:=fun z1 z2=>Ii pins s σ H x y v u Q I rx ry ⟨z1,by rw[z2];exact q⟩
 cases dx with
 | int i=>obtain⟨j,e1,e⟩:=rm e;cases (show x=_ from r1);cases sQ e1 r2;exact sc rfl (xo.trans e)
 | str i=>obtain⟨j,e1,e⟩:=rm e;cases (show x=_ from r1);cases En e1 r2;exact sc rfl (xq.trans e)
 | bl i=>obtain⟨j,e1,e⟩:=rm e;cases (show x=_ from r1);cases Gp e1 r2;exact sc rfl (zu.trans e)
 | _=>cases e
theorem pG{k:Nat}(hr:ri k X.A):BK X .NotEq Ia:=by
 intro pins s σ H x y v u Q I rx ry h
 obtain⟨dx,dy,b,r1,r2,e0,q⟩:=h
 obtain⟨c,e,rfl⟩:=rm e0
 clear e0
 have sc:E7 x y=true->decide (x=y)=c->wpAny (model X.prog X.w) X.A (compareOp .NotEq v u) (EP X pins σ Q) X.xe s:=fun z1 z2=>IY pins s σ H x y v u Q I rx ry ⟨z1,by rw[z2];exact q⟩
 cases dx with
 | int i=>obtain⟨j,e1,e⟩:=rm e;cases (show x=_ from r1);cases sQ e1 r2;exact sc rfl (xo.trans e)
 | str i=>obtain⟨j,e1,e⟩:=rm e;cases (show x=_ from r1);cases En e1 r2;exact sc rfl (xq.trans e)
 | bl i=>obtain⟨j,e1,e⟩:=rm e;cases (show x=_ from r1);cases Gp e1 r2;exact sc rfl (zu.trans e)
 | _=>cases e
variable{a:MJ}{f:R->OD}{pos p2:Pos}{lo hi:Me MJ}{l h:R->Me (Me Int)}
theorem jh:SO X none JZ:=EW.imp fun σ H Q ⟨ρ,o,er,e,q⟩=>by
 cases e
 exact q H (l0.refl H)
theorem jC(ha:SE X a f):SO X (some a) (aP f):=(FE ha).imp fun σ H Q ⟨ρ,o,er,e,q⟩=>by
 obtain⟨x,e1,e2⟩:=i9 e
 refine⟨ρ,x,er,e1,fun v H1 s1 r1=>?_⟩
 cases x with
 | int i=>cases e2;exact⟨i,r1,q H1 s1⟩
 | _=>cases e2
theorem Cb(n d:Nat)(o:Me Int):Eh n d o=HT.sIx n d o:=rfl
theorem yq{prog:Mv}{w:MH}{A:MQ}{E:Mg->Mi->Prop}{s:Mi}{t sl:Ml}{items:Array Mg}{vl vu:Mg}{lo hi:Me Int}{Q:Mg->Mi->Prop}(ht:IsTup s.heap t items)(hs:s.heap.IsSliceOf sl vl vu .none)(pl:IsPart vl lo)(pu:IsPart vu hi)
  (hw:HT.sIx items.size 0 lo=0/\HT.sIx items.size items.size hi=items.size) (h:Q (.ref t) s):wpAny (model prog w) A (getItem (.ref t) (.ref sl)) Q E s:=by
 obtain⟨os,hos,hcs,hds⟩:=id hs
 have hTs:s.TypeIs (.ref sl) "slice":=⟨os,hos,hcs⟩
 unfold getItem
 try with_reducible refine wpAny_holding ?_
 first | refine Mf (Mm ?_) | skip
 refine Mf (wpAny_sequenceKey ht.typeIs (by decide) ?_)
 refine Mf (wpAny_callSpecial?_slot (name:=oS "__getitem__") ht.typeIs PyProof.Rows.slot_tuple_getitem
  (wpAny_call_entry PyProof.Rows.slot_tuple_getitem ht.typeIs entry_tuple_getitem ?_ (args_tuple_getitem _ _)))
 show wpAny _ _ (Builtin.Tuple.tupleItemsOf (.ref t) >>= _) _ _ s
 refine Mf (tupleItemsOf_ ht ?_)
 refine Mf (wpAny_typeOf hTs ?_)
 rw[Mo (by decide)]
 refine Mf (HT.sliceApplied_gen hs pl pu ?_)
 have hyes:((((HT.sIx items.size 0 lo:Nat):Int)==0&&(1:Int)==1&&(HT.sIx items.size items.size hi - HT.sIx items.size 0 lo)==items.size)=true):=by
  rw[hw.1,hw.2];simp
 show wpAny _ _ (if (((HT.sIx items.size 0 lo:Nat):Int)==0&&(1:Int)==1&&(HT.sIx items.size items.size hi - HT.sIx items.size 0 lo)==items.size)=true then _ else _) _ _ s
 rw[Mo hyes]
 refine Mf (m:=Builtin.Tuple.tupleIsExact _) (Mf (wpAny_typeOf ht.typeIs (Mm ?_)))
 rw[Mo (by decide)]
 exact Mf (wpAny_rule (Mm ⟨_,rfl,Mm h⟩))
theorem Bd{xs:List V}{lo hi:Me Int}(h:HT.sIx xs.length 0 lo=0/\HT.sIx xs.length xs.length hi=xs.length):xj xs lo hi=xs:=by
 unfold xj
 rw[h.1,h.2,List.drop_zero,Nat.sub_zero,List.take_length]
def Kw(K:Mj):V->Me Int->Me Int->Hp->VK->Prop:=fun x lo hi H Q=>∃a xs,x=.ref a/\uT K H a xs/\∀p H',l0 H H'->uT K H' p (xj xs lo hi)->Q (.ref p) H'
theorem GJ:Gv X (Kw X.K):=by
 intro pins s σ H x v vl vu lo hi sl Q I rx hs pl pu h
 obtain⟨a,xs,rfl,hx,q⟩:=h
 by_cases hw:HT.sIx xs.length 0 lo=0/\HT.sIx xs.length xs.length hi=xs.length
 ·cases rx
  obtain⟨its,r,ht,hz⟩:=I.tuple hx
  have hlen:its.toArray.size=xs.length:=by rw[Mz];exact r.length.symm
  refine⟨"tuple",_,PyProof.Rows.slot_tuple_getitem.lookup,ht.typeIs,?_⟩
  exact yq ht hs pl pu (by rw[hlen];exact hw) ⟨.ref a,H,I,rfl,q a H (l0.refl H) (by rw[Bd hw];exact hx)⟩
 ·exact G2 pins s σ H (.ref a) v vl vu lo hi sl Q I rx hs pl pu ⟨a,xs,rfl,hx,hw,fun p hp=>q p _ (bf hp _) (uT.of ay)⟩
theorem lT{K:Mj}{H:Hp}{ds:LD}{xs:List V}(t:k9 K H ds xs)(lo hi:Me Int):k9 K H (cutD ds lo hi) (xj xs lo hi):=by
 unfold cutD xj
 rw[t.length,Cb,Cb]
 exact(t.drop _).take _
theorem gS(ha:SE X a f)(hl:SO X lo l)(hh:SO X hi h):SE X (.Subscript a (.Slice lo hi none p2) pos) (H_ f l h):=(oo (GJ.or FO) ha hl hh).imp fun σ H Q ⟨ρ,d,er,e,q⟩=>by
 obtain⟨x,e1,e⟩:=i9 e
 obtain⟨o1,e2,e⟩:=i9 e
 obtain⟨o2,e3,e⟩:=i9 e
 refine⟨ρ,x,er,e1,fun v H1 s1 r1=>⟨ρ,o1,er.mono s1,e2,fun H2 s2=>⟨ρ,o2,er.mono (s1.trans s2),e3,fun H3 s3=>?_⟩⟩⟩
 cases x with
 | tup xs =>
  cases e
  obtain⟨a,vs,rfl,hq,t⟩:=(r1.mono (s2.trans s3))
  exact .inl ⟨a,vs,rfl,hq,fun p H4 s4 sq=>q _ H4 (s1.trans (s2.trans (s3.trans s4))) ⟨p,_,rfl,sq,(lT t o1 o2).mono s4⟩⟩
 | lst xs =>
  cases e
  obtain⟨a,vs,rfl,hq,t⟩:=(r1.mono (s2.trans s3))
  refine .inr ⟨a,vs,rfl,ua.of hq,fun p hp=>?_⟩
  have s4:=bf hp (.lst (xj vs o1 o2))
  exact q _ _ (s1.trans (s2.trans (s3.trans s4))) ⟨p,_,rfl,ay,(lT t o1 o2).mono s4⟩
 | _=>cases e
end
set_option maxHeartbeats 2000000
noncomputable def si(names:List (Str×NameKind))(cells:List (Str×Ml))(acc:List (Str×Ml)):List (Str×Ml):=
 match names with
 | []=>acc
 | (n,k)::r=>si r cells (if k==.free then (match cells.lookup n with | some c=>(n,c)::acc | none=>acc) else acc)
theorem vR {env:Env}:∀ (names:List (Str×NameKind)) (acc:List (Str×Ml)),(∀ p∈names,p.2=.free->∃ c,env.cells.lookup p.1=some c) ->
    (forIn names acc fun x r=>(match x with
      | (name,kind)=>if (kind==NameKind.free)=true then do
          let c <- cellOf env name
          pure (ForInStep.yield ((name,c)::r))
        else pure (ForInStep.yield r):Sem (ForInStep (List (Str×Ml)))))=(pure (si names env.cells acc):Sem (List (Str×Ml)))
  | [],acc,_=>rfl
  | (n,k)::r,acc,h=>by
    rw[List.forIn_cons]
    cases hk:(k==NameKind.free) with
    | false =>
      have ih:=vR r acc fun p hp=>h p (MV _ hp)
      simp only[hk,si,Bool.false_eq_true,if_false]
      exact ih
    | true =>
      obtain⟨c,hc⟩:=h (n,k) M4 (by simpa using hk)
      have ih:=vR r ((n,c)::acc) fun p hp=>h p (MV _ hp)
      have hcell:cellOf env n=pure c:=by unfold cellOf;rw[show env.cells.lookup n=some c from hc]
      simp only[hk,si,if_true,hcell,show env.cells.lookup n=some c from hc]
      exact ih
theorem A0{scope:Scope}{env:Env}(h:∀p∈scope.names,p.2=.free->∃c,env.cells.lookup p.1=some c):closureFor scope env=pure (si scope.names env.cells []):=by
 unfold closureFor
 have:=vR scope.names [] h
 simp only[bind_pure]
 exact this
theorem tZ{β:Type}{y n:Str}{c:β}{l:List (Str×β)}:List.lookup y ((n,c)::l)=if y=n then some c else List.lookup y l:=by
 rw[List.lookup_cons]
 by_cases h:y=n
 ·subst h;simp
 ·have:(y==n)=false:=by simpa using h
  rw[this,Mx h]
theorem wy{cells:List (Str×Ml)}:∀(names:List (Str×NameKind)) (acc:List (Str×Ml)),(∀y c,acc.lookup y=some c->cells.lookup y=some c)->∀y c,(si names cells acc).lookup y=some c->cells.lookup y=some c
 | [],acc,h=>h
 | (n,k)::r,acc,h=>by
  unfold si
  refine wy r _ ?_
  split
  ·cases hc:cells.lookup n with
   | none=>exact h
   | some c0 =>
    intro y c hy
    rw[tZ] at hy
    split at hy
    ·rename_i e
     subst e
     cases hy
     exact hc
    ·exact h y c hy
  ·exact h
theorem yU{cells:List (Str×Ml)}{y:Str}:∀(names:List (Str×NameKind)) (acc:List (Str×Ml)),(acc.lookup y).isSome=true->((si names cells acc).lookup y).isSome=true
 | [],acc,h=>h
 | (n,k)::r,acc,h=>by
  unfold si
  refine yU r _ ?_
  split
  ·cases hc:cells.lookup n with
   | none=>exact h
   | some c0 =>
    dsimp only
    rw[tZ]
    split
    ·rfl
    ·exact h
  ·exact h
theorem Az{cells:List (Str×Ml)}{y:Str}{c:Ml}(hc:cells.lookup y=some c):∀(names:List (Str×NameKind)) (acc:List (Str×Ml)),(y,NameKind.free)∈names->((si names cells acc).lookup y).isSome=true
 | (n,k)::r,acc,h=>by
  unfold si
  rcases Mu.mp h with e | h
  ·cases e
   refine yU r _ ?_
   rw[Mo (show(NameKind.free==NameKind.free)=true by decide),hc]
   dsimp only
   rw[tZ,Mo rfl]
   rfl
  ·exact Az hc r _ h
theorem Fx{cells:List (Str×Ml)}{names:List (Str×NameKind)}{y:Str}{c:Ml}(hc:cells.lookup y=some c)(h:(y,NameKind.free)∈names):(si names cells []).lookup y=some c:=by
 obtain⟨c',e⟩:=Option.isSome_iff_exists.mp (Az hc names [] h)
 have:=wy names [] (fun y c h=>by cases h) y c' e
 rw[hc] at this
 cases this
 exact e
theorem x8{env:Env}{y:Str}:∀(names:List (Str×NameKind)),(names.map fun (n,k)=>if (k==NameKind.free&&env.scope.kind==.function&&env.kindOf n==some .cell) then (n,NameKind.cell) else (n,k)).lookup y =
  (names.lookup y).map fun k=>if (k==NameKind.free&&env.scope.kind==.function&&env.kindOf y==some .cell) then NameKind.cell else k
 | []=>rfl
 | (n,k)::r=>by
  have hd:∀(c:Bool),(if c=true then (n,NameKind.cell) else (n,k))=(n,if c=true then NameKind.cell else k):=fun c=>by cases c<;>rfl
  rw[M9]
  show List.lookup y ((if (k==NameKind.free&&env.scope.kind==.function&&env.kindOf n==some .cell)=true then (n,NameKind.cell) else (n,k))::_)=_
  rw[hd,tZ,tZ]
  by_cases e:y=n
  ·subst e
   rw[Mo rfl,Mo rfl]
   rfl
  ·rw[Mx e,Mx e]
   exact x8 r
noncomputable def wg(sc outer:Scope)(T N:List Str):Bool:=
 sc.kind==.function&&(sc.names.all fun p=>p.2 != .cell&&(p.2 != .local||(sc.names.lookup p.1==some .local&&(T.contains p.1||p.1==(".0" : Str))))&&(p.2 != .free||outer.names.lookup p.1==some .cell||outer.names.lookup p.1==some .free)) &&
  (T.all fun t=>sc.names.lookup t==some .local)&&!N.contains (".0" : Str)
structure xE (sc outer:Scope) (T N:List Str):Prop where
 kind:sc.kind=.function
 nocell:∀y∈sc.names,y.2≠.cell
 names:∀y∈sc.names,y.2=.local->sc.names.lookup y.1=some .local
 loc:∀y,sc.names.lookup y=some .local->y∈T\/y=(".0" : Str)
 free:∀y∈sc.names,y.2=.free->outer.names.lookup y.1=some .cell\/outer.names.lookup y.1=some .free
 tg:∀t∈T,sc.names.lookup t=some .local
 no0:(".0" : Str)∉N
theorem wK{sc outer:Scope}{T N:List Str}(h:wg sc outer T N=true):xE sc outer T N:=by
 unfold wg at h
 rw[Mp,Mp,Mp] at h
 obtain⟨⟨⟨h1,h2⟩,h3⟩,h4⟩:=h
 rw[M3] at h2 h3
 have g:∀y∈sc.names,y.2≠.cell/\(y.2=.local->sc.names.lookup y.1=some .local/\(y.1∈T\/y.1=(".0" : Str)))/\(y.2=.free->outer.names.lookup y.1=some .cell\/outer.names.lookup y.1=some .free):=fun y hy=>by
  have q:=h2 y hy
  rw[Mp,Mp] at q
  obtain⟨⟨q1,q2⟩,q3⟩:=q
  refine⟨by simpa using q1,fun hl=>?_,fun hf=>?_⟩
  ·rw[hl] at q2
   simpa using q2
  ·rw[hf] at q3
   simpa using q3
 refine⟨by simpa using h1,fun y hy=>(g y hy).1,fun y hy hl=>((g y hy).2.1 hl).1,fun y hy=>?_,fun y hy hf=>(g y hy).2.2 hf,fun t ht=>by simpa using h3 t ht,by simpa using h4⟩
 exact((g (y,.local) (Nt hy)).2.1 rfl).2
def uU(X:Cx)(T:List Str)(scope:Scope)(C:Ml)(fp:List Ml)(s₃:Mi)(H₃:Hp):Cx where
 prog:=X.prog
 w:=X.w
 K:=X.K
 mg:=X.mg
 base:=X.base
 A:=X.A
 N:=T++X.N
 s₀:=s₃
 H₀:=H₃
 env:=compEnvC scope (si scope.names X.env.cells []) C X.env
 outer:=X.stack
 stack:=X.stack
 ex:=fp
 fn:=fun _=>false
 calm:=X.calm
 pn:=[]
 xe:=fun _ _=>False
section
variable{X:Cx}{pins:List (Ml×Obj)}{σ:L2.St}{H:Hp}{s:Mi}{T:List Str}{scope:Scope}{C:Ml}{fp:List Ml}{h₁:MI}{t:Nat}
theorem An(I:L2.Inv X pins σ H s)(ck:xE scope X.env.scope T X.N)(hnd:(T++X.N).Nodup)(hf:∀b∈fp,uB X pins H b)(hfo:∀b∈fp,∃o,s.heap.get? b=some o)(hC:s.heap.objs.size<=C)
  (hk:∀b u,s.heap.get? b=some u->h₁.get? b=some u) (hns:h₁.Ns C (fun _=>none)) :
  L2.Inv (uU X T scope C fp s H) [] (List.replicate T.length none++σ) H {s with heap:=h₁,toks:=t}:=by
 have hlt:∀b∈fp,b<s.heap.objs.size:=fun b hb=>let ⟨o,e⟩:=hfo b hb;MD e
 have hcl:∀y c,(si scope.names X.env.cells []).lookup y=some c->X.env.cells.lookup y=some c:=wy scope.names [] fun y c h=>by cases h
 have hfr:∀y,(y,NameKind.free)∈scope.names->(X.env.kindOf y=some .cell\/X.env.kindOf y=some .free)/\∃c,(si scope.names X.env.cells []).lookup y=some c/\X.env.cells.lookup y=some c:=fun y hy=>by
  have k:=ck.free _ hy rfl
  obtain⟨c,hc⟩:=I.ok.has y k
  exact⟨k,c,Fx hc hy,hc⟩
 have hkind:∀y,(compEnvC scope (si scope.names X.env.cells []) C X.env).kindOf y=(scope.names.lookup y).map fun k=>if (k==NameKind.free&&X.env.scope.kind==.function&&X.env.kindOf y==some .cell) then NameKind.cell else k:=fun y=>x8 scope.names
 have hvis:∀y,((compEnvC scope (si scope.names X.env.cells []) C X.env).kindOf y=some .cell\/(compEnvC scope (si scope.names X.env.cells []) C X.env).kindOf y=some .free)->(y,NameKind.free)∈scope.names:=fun y hy=>by
  rw[hkind] at hy
  cases hl:scope.names.lookup y with
  | none=>rw[hl] at hy;rcases hy with z | z<;>cases z
  | some k =>
   have hm:=Nt hl
   rw[hl] at hy
   cases k with
   | free=>exact hm
   | cell=>exact MY rfl (ck.nocell _ hm)
   | «local»=>rcases hy with z | z<;>cases z
   | globalExplicit=>rcases hy with z | z<;>cases z
   | globalImplicit=>rcases hy with z | z<;>cases z
 refine⟨⟨I.ok.mod,ck.kind,I.ok.glob,I.ok.blt,hC,fun x y c h1 h2=>I.ok.inj x y c (hcl x c h1) (hcl y c h2),fun y hy=>?_,fun y c h=>MY (show false=true from h) Mt,I.ok.hd,I.ok.frames,.inl rfl,fun b hb=>⟨?_,fun x c h=>?_⟩,I.bs,
  MN I.ok.bsz I.sz,fun b o e hb=>?_,fun b hb hz=>?_,I.stack,I.stkFree⟩,rfl,I.bare,Un.kept hk,⟨_,hns,fun i x v h1 h2 h3=>?_⟩,fun y c h=>?_,I.hok.fresh hC,fun y c h=>I.freeC y c (hcl y c h),fun p hp=>MY (show p∈([]:List (Ml×Obj)) from hp) (by simp),I.hok.kept hk,?_⟩
 ·obtain⟨_,c,h1,_⟩:=hfr y (hvis y hy)
  exact⟨c,h1⟩
 ·exact MM (MB (hlt b hb) hC)
 ·exact(hf b hb).2.2.2.2.1 x c (hcl x c h)
 ·rcases(hf b hb).2.2.2.1 with z | z
  ·exact I.ok.noex b o e z
  ·exact MY (MB (MD e) (MN I.ok.bsz z)) (Ni _)
 ·rcases Mu.mp (I.stkSub b hz) with z | z
  ·exact(hf b hb).2.1 z
  ·exact(hf b hb).2.2.1 z
 ·by_cases hi:i<T.length
  ·rw[Nh (by simpa using hi),List.getElem?_replicate] at h2
   split at h2<;>cases h2
  ·rw[M0 (by simpa using hi),List.length_replicate] at h2
   have h1':X.N[i - T.length]?=some x:=by
    have z:(T++X.N)[i]?=some x:=h1
    rw[M0 (by omega)] at z
    exact z
   have hxN:x∈X.N:=NA h1'
   have hxf:(x,NameKind.free)∈scope.names:=by
    rcases h3 with z | z | z
    ·have z':(compEnvC scope (si scope.names X.env.cells []) C X.env).kindOf x=some .local:=z
     rw[hkind] at z'
     cases hl:scope.names.lookup x with
     | none=>rw[hl] at z';cases z'
     | some k =>
      rw[hl] at z'
      have hkl:k=.local:=by
       cases k with
       | «local»=>rfl
       | free=>simp at z';split at z'<;>cases z'
       | cell=>cases z'
       | globalExplicit=>cases z'
       | globalImplicit=>cases z'
      subst hkl
      rcases ck.loc x hl with q | q
      ·exact MY rfl ((List.nodup_append.mp hnd).2.2 x q x hxN)
      ·exact MY (q ▸ hxN) ck.no0
    ·exact hvis x (.inl z)
    ·exact hvis x (.inr z)
   obtain⟨hk2,c,hc1,hc2⟩:=hfr x hxf
   obtain⟨m,hm,hl⟩:=I.loc
   obtain⟨u,ru,lk⟩:=hl _ x v h1' h2 (hk2.elim (fun z=>.inr (.inl z)) fun z=>.inr (.inr z))
   refine⟨u,ru,.inr ⟨?_,c,hc1,?_⟩⟩
   ·rcases h3 with z | z | z
    ·exfalso
     have z':(compEnvC scope (si scope.names X.env.cells []) C X.env).kindOf x=some .local:=z
     rw[hkind] at z'
     cases hl2:scope.names.lookup x with
     | none=>rw[hl2] at z';cases z'
     | some k =>
      rw[hl2] at z'
      have hkl:k=.local:=by
       cases k with
       | «local»=>rfl
       | free=>simp at z';split at z'<;>cases z'
       | cell=>cases z'
       | globalExplicit=>cases z'
       | globalImplicit=>cases z'
      subst hkl
      rcases ck.loc x hl2 with q | q
      ·exact MY rfl ((List.nodup_append.mp hnd).2.2 x q x hxN)
      ·exact MY (q ▸ hxN) ck.no0
    ·exact .inl z
    ·exact .inr z
   ·rcases lk with ⟨kl,_⟩ | ⟨_,c',hc',hcell⟩
    ·rcases hk2 with z | z
     ·rw[kl] at z;cases z
     ·rw[kl] at z;cases z
    ·rw[hc2] at hc'
     cases hc'
     obtain⟨o,ho,hd⟩:=hcell
     exact⟨o,hk _ _ ho,hd⟩
 ·obtain⟨v,o,ho,hd⟩:=I.cell y c (hcl y c h)
  exact⟨v,o,hk _ _ ho,hd⟩
 ·show(List.replicate T.length none++σ).length=(T++X.N).length
  rw[MP,MP,List.length_replicate,I.len]
end
theorem we {prog:Mv} {w:MH} {A:MQ} {R':Result->Mi->Prop} {s:Mi} {elt target iter:MJ} {ifs:List MJ} {scope:Scope} {pos:Pos} {it acc:Mg} {env:Env} (I:Nat->Mi->Prop)
    (turn:∀n s,I n s->wpAny (model prog w) A (pyNext it) (fun r s₁=>match r with
      | none=>R' (.ok .next) s₁
      | some v=>wpAny (model prog w) A (letOwnedTupleGo target it v) (fun _ s₁'=>wpAny (model prog w) A (assign target env v) (fun _ s₂ =>
          wpAny (model prog w) A (forIn ifs true fun c r=>if r=true then do let ok <- isTrue c env (eval c env);pure (ForInStep.yield ok) else pure (ForInStep.yield r)) (fun ok s₃ =>
            if ok=true then wpAny (model prog w) A (eval elt env) (fun x s₄ =>
              wpAny (model prog w) A (call (.builtin "list.append") [acc,x]) (fun _ s₅=>∃m,m<n/\I m s₅) (fun _ _=>False) s₄) (fun _ _=>False) s₃
            else ∃m,m<n/\I m s₃) (fun _ _=>False) s₂) (fun _ _=>False) s₁') (fun _ _=>False) s₁) (fun _ _=>False) s)
    (n:Nat) (h:I n s):codeAny (model prog w) A (.compLoop (.ListComp elt [⟨target,iter,ifs,0⟩] scope pos) 0 it acc env) R' s:=by
  refine codeAny_loop rfl I (fun n s hI=>?_) n h
  show wpAny _ A ((compTurn (.ListComp elt [⟨target,iter,ifs,0⟩] scope pos) 0 it acc env).onRaise (fun x=>do noteFrame x env;theTreesLotGoes x)) _ _ s
  refine wpAny_noted ?_
  rw[compTurn_list]
  have ff:∀{E:Mg->Mi->Prop} (a:Mg) (s:Mi),False->E a s:=fun _ _ z=>z.elim
  refine Mf (wpAny_standAt (Mf (Nu (turn n s hI) (fun r s₁ h₁=>?_) ff)))
  cases r with
  | none=>exact Mm h₁
  | some v =>
    refine Mf (Nu h₁ (fun _ s₁' h₁'=>?_) ff)
    refine Mf (Nu h₁' (fun _ s₂ h₂=>Mf (Nu h₂ (fun ok s₃ h₃=>?_) ff)) ff)
    cases ok with
    | false=>exact Mm ⟨rfl,h₃⟩
    | true =>
      exact Mf (Mf (Nu h₃ (fun x s₄ h₄=>Mf (Nu h₄ (fun _ s₅ h₅=>Mm (Mm ⟨rfl,h₅⟩)) ff)) ff))
def Jd(X:Cx)(ifs:List MJ)(c:R->Me Bool):Prop:=
 ∀(pins:List (Ml×Obj)) (s:Mi) (σ:L2.St) (H:Hp) (Q:Bool->Hp->Prop),L2.Inv X pins σ H s->IR X.K c σ H Q ->
  wpAny (model X.prog X.w) X.A (forIn ifs true fun c r=>if r=true then do let ok <- isTrue c X.env (eval c X.env);pure (ForInStep.yield ok) else pure (ForInStep.yield r)) (TP X pins σ Q) X.xe s
theorem fR{X:Cx}:Jd X [] uF:=fun pins s σ H Q I ⟨ρ,b,er,e,q⟩=>by
 cases e
 exact wpAny_tests_nil ⟨H,I,q H (l0.refl H)⟩
theorem qj{X:Cx}{e:MJ}{c:R->Me Bool}(h:ST X e c):Jd X [e] c:=fun pins s σ H Q I q=>wpAny_tests_one (h pins s σ H Q I q)
section
variable{X:Cx}{pins:List (Ml×Obj)}{σ:L2.St}{H:Hp}{s:Mi}{T:List Str}{scope:Scope}
def xc(k:Nat)(stf:D->R->Me R):Prop:=∀(d:D) (τ ρ ρ1:R),τ.length=k->stf d (τ++ρ)=some ρ1->∃ τ',τ'.length=k/\ρ1=τ'++ρ
theorem r_{k i:Nat}(h:i<k):xc k (setAt i):=fun d τ ρ ρ1 hl e=>by
 unfold setAt at e
 split at e
 ·cases e
  exact⟨τ.set i (some d),by simp[hl],List.set_append_left _ _ (by omega)⟩
 ·cases e
theorem xI{k:Nat}:∀{fs:List (D->R->Me R)},(∀f∈fs,xc k f)->∀(ds:LD) (τ ρ ρ1:R),τ.length=k->Ab fs ds (τ++ρ)=some ρ1->∃ τ',τ'.length=k/\ρ1=τ'++ρ
 | [],_,[],τ,ρ,ρ1,hl,e=>by cases e;exact⟨τ,hl,rfl⟩
 | [],_,_::_,_,_,_,_,e=>by cases e
 | _::_,_,[],_,_,_,_,e=>by cases e
 | f::fs,hf,d::ds,τ,ρ,ρ1,hl,e=>by
  obtain⟨ρ2,e1,e⟩:=i9 e
  obtain⟨τ2,h2,rfl⟩:=hf f M4 d τ ρ ρ2 hl e1
  exact xI (fun g hg=>hf g (MV _ hg)) ds τ2 ρ ρ1 h2 e
theorem Cz{k:Nat}{fs:List (D->R->Me R)}(hf:∀f∈fs,xc k f):xc k (AN fs):=fun d τ ρ ρ1 hl e=>by
 cases d with
 | tup ds=>exact xI hf ds τ ρ ρ1 hl e
 | _=>cases e
theorem qV.forget{K:Mj}{H:Hp}{τ ρ:R}{σ:L2.St}(e:qV K H (τ++ρ) σ):qV K H (List.replicate τ.length none++ρ) σ:=by
 refine⟨by have:=e.1;simpa using this,fun i d h=>?_⟩
 by_cases hi:i<τ.length
 ·rw[Nh (by simpa using hi),List.getElem?_replicate] at h
  split at h<;>cases h
 ·rw[M0 (by simpa using hi),List.length_replicate] at h
  exact e.2 i d (by rw[M0 (by omega)];exact h)
theorem Gw{a:Ml}{o:HO}(I:L2.Inv X pins σ H s)(f:uB X pins H a)(new:tY X.prog X.w (upd H a o) s.heap a o):L2.Inv X pins σ (upd H a o) s:=by
 obtain⟨f0,f1,f2,f3,f4,f5⟩:=f
 have ne:∀{b:Ml} {u:HO},H b=some u->b≠a:=fun e z=>by rw[z,f0] at e;cases e
 refine⟨I.ok,I.os,I.bare,⟨I.base.keep,I.base.slot,fun b ob e n hx=>?_,I.base.there,fun b xs e=>?_,fun b ob u ny e=>?_,fun b ps d e=>?_⟩,I.loc,I.cell,?_,fun x c e=>?_,fun p hp=>?_,fun b u e=>?_,I.len⟩
 ·have hb:b≠a:=fun z=>by
   rcases f3 with q | q
   ·exact hx (z ▸ q)
   ·exact MY (MB (MD e) (z ▸ q)) (Ni _)
  rw[ar hb]
  exact I.base.free b ob e n hx
 ·have q:=I.base.tups b xs e
  rw[ar (ne q)]
  exact q
 ·have q:=I.base.frzs b ob u ny e
  rw[ar (ne q)]
  exact q
 ·have q:=I.base.tbls b ps d e
  rw[ar (ne q)]
  exact q
 ·rw[ar (Ne.symm f1)]
  exact I.free
 ·rw[ar (f4 x c e)]
  exact I.freeC x c e
 ·obtain⟨q1,q2,q3⟩:=I.pin p hp
  exact⟨q1,by rw[ar (f5 p hp)];exact q2,q3⟩
 ·by_cases hb:b=a
  ·subst hb
   rw[ay] at e
   cases e
   exact new
  ·rw[ar hb] at e
   refine(I.hok b u e).stay (fun _ _ _ q=>q) (fun c q=>?_) (fun c xs q=>?_) fun c _ _ q=>?_
   ·rw[ar (ne q)];exact q
   ·rw[ar (ne q)];exact q
   ·rw[ar (ne q)];exact q
theorem BR{C:Ml}{fp:List Ml}{s₃:Mi}{H₃ H':Hp}{b:Ml}{pl:List (Ml×Obj)}(hb:b∈fp\/s₃.heap.objs.size<=b)(hC:b≠C)(hfs:b∉AL X.stack)(hcells:∀x c,(si scope.names X.env.cells []).lookup x=some c->c≠b)(hn:H' b=none)(hp:∀p∈pl,p.1≠b) :
  uB (uU X T scope C fp s₃ H₃) pl H' b:=⟨hn,hC,hfs,hb,hcells,fun p hp'=>hp p hp'⟩
theorem kK{elt iter tg:MJ}{ifs:List MJ}{pos:Pos}{it:Ml}{fp:List Ml}{tn:Nat->MI->Prop}{J:It}{E:Mg->Mi->Prop}{ρ:R}{ds out:LD}{stf:D->R->Me R}{cf:R->Me Bool}{ef:R->OD}
  (I:L2.Inv X pins σ H s) (hc:X.calm=true) (Tn:Turn X.prog X.w X.K tg J fp it tn) (st:tn 0 s.heap) (hf:∀b∈fp,uB X pins H b)
  (ck:xE scope X.env.scope T X.N) (hnd:(T++X.N).Nodup) (hst:xc T.length stf) (er:qV X.K H ρ σ) (y:sV X.K J ds H) (hz:ds.length<=sizeLine) (hout:rQ stf cf ef ds (List.replicate T.length none++ρ)=some out)
  (hg:∀C s₃ H₃ fp,SG (uU X T scope C fp s₃ H₃) tg stf) (hcnd:∀C s₃ H₃ fp,Jd (uU X T scope C fp s₃ H₃) ifs cf) (he:∀C s₃ H₃ fp,SE (uU X T scope C fp s₃ H₃) elt ef)
  {RR:Mg->Ml->Result->Mi->Prop}
  (hRR:∀(a C:Ml) (H':Hp) (s':Mi) (vs:List V),l0 H H'->H' a=some (.lst vs)->k9 X.K H' out vs->L2.Inv X pins σ H' s'->uB X pins H' C->(∃m,s'.heap.Ns C m)->RR (.ref a) C (.ok .next) s') :
  wpAny (model X.prog X.w) X.A (newList []) (fun acc s₃=>wpAny (model X.prog X.w) X.A (newFunctionEnv scope X.env.globals (si scope.names X.env.cells []) [] X.env.qual none .none (some X.env)) (fun cenv s₄ =>
   codeAny (model X.prog X.w) X.A (.compStart (.ListComp elt [⟨tg,iter,ifs,0⟩] scope pos) 0 (.ref it) acc {cenv with scope:=relabel scope X.env}) (RR acc cenv.locals) s₄) E s₃) E s:=by
 refine Nf (wpAny_newFunctionEnv ck.nocell (by intro y hy;simp at hy) (fun h₁ hns₁ hsb₁=>?_) ck.kind)
 dsimp only at hns₁ hsb₁ ⊢
 generalize hH2:s.heap.push {cls:=.type "list",dict:=none,data:=.seq ([]:List Mg).toArray}=H2 at hns₁ hsb₁ ⊢
 generalize ha:s.heap.objs.size=a at *
 generalize hCe:H2.objs.size=C at hns₁ hsb₁ ⊢
 have hC:C=a+1:=by rw[<- hCe,<- hH2,Heap.size_push,ha]
 have haC':a<C:=by rw[hC];exact Nv a
 have haC:a≠C:=MM haC'
 have hle:s.heap.objs.size<=a:=Nat.le_of_eq ha
 have hCle:s.heap.objs.size<=C:=MN hle (Nat.le_of_lt haC')
 have hlta:∀{b:Ml} {o:Obj},s.heap.get? b=some o->b<a:=fun e=>MB (MD e) hle
 have old:∀b o,s.heap.get? b=some o->h₁.get? b=some o:=fun b o e=>hsb₁.extBut b o (MM (Nat.lt_trans (hlta e) haC')) (Mh _ (hH2 ▸ Mh _ e))
 have hacc:h₁.get? a=some {cls:=.type "list",data:=.seq ([]:List Mg).toArray}:=hsb₁.extBut _ _ haC (Mh _ (hH2 ▸ (ha ▸ Mq _ rfl)))
 have hfo:∀b∈fp,∃o,s.heap.get? b=some o:=fun b hb=>let ⟨o,e,_⟩:=Tn.obj 0 _ st b hb;⟨o,e⟩
 have hlt:∀b∈fp,b<a:=fun b hb=>let ⟨o,e⟩:=hfo b hb;hlta e
 have hns:h₁.Ns C (fun _=>none):=hns₁
 have I0:L2.Inv (uU X T scope C fp s H) [] (List.replicate T.length none++σ) H {s with heap:=h₁,toks:=s.toks+([]:List (Str×Mg)).length}:=An I ck hnd hf hfo hCle old hns
 have hcl:∀y c,(si scope.names X.env.cells []).lookup y=some c->X.env.cells.lookup y=some c:=wy scope.names [] fun y c h=>by cases h
 have hfs:∀b,a<=b->b∉AL X.stack:=fun b hb hz=>by
  rcases Mu.mp (I.stkSub b hz) with z | z
  ·exact MY (MB I.lt (MN hle (z ▸ hb))) (Ni _)
  ·exact I.nofs (MN hle hb) z
 have hcells:∀b,a<=b->∀x c,(si scope.names X.env.cells []).lookup x=some c->c≠b:=fun b hb x c h z=>by
  obtain⟨v,q⟩:=I.cell x c (hcl x c h)
  exact MY (MB q.lt (MN hle (z ▸ hb))) (Ni _)
 have hfpok:∀{H':Hp} {pl:List (Ml×Obj)},(∀b∈fp,H' b=none)->(∀p∈pl,p.1∉fp)->∀b∈fp,uB (uU X T scope C fp s H) pl H' b:=fun {H' pl} hn hp b hb =>
  BR (.inl hb) (MM (Nat.lt_trans (hlt b hb) haC')) (I0.ok.exfs b hb) (fun x c h=>(I0.ok.exf b hb).2 x c h) (hn b hb) fun p hp' z=>hp p hp' (z ▸ hb)
 have hAok:∀{H':Hp},H' a=none->∀b ∈ [a],uB (uU X T scope C fp s H) [] H' b:=fun {H'} hn b hb=>by
  cases Mr.mp hb
  exact BR (.inr hle) haC (hfs a (Mw _)) (hcells a (Mw _)) hn fun p hp=>MY hp (by simp)
 have hAfp:a∉fp:=fun z=>Ni _ (hlt a z)
 have loop:codeAny (model X.prog X.w) X.A (.compLoop (.ListComp elt [⟨tg,iter,ifs,0⟩] scope pos) 0 (.ref it) (.ref a) (compEnvC scope (si scope.names X.env.cells []) C X.env))
   (RR (.ref a) C) {s with heap:=h₁,toks:=s.toks+([]:List (Str×Mg)).length}:=by
  refine we (fun n s'=>∃i σ' H' vs its k done rest,n=ds.length - i/\i<=ds.length/\L2.Inv (uU X T scope C fp s H) [] σ' H' s'/\tn i s'.heap/\(∀b∈fp,H' b=none)/\H' a=none/\l0 H H' /\
   s'.heap.get? a=some {cls:=.type "list",data:=.seq (its:List Mg).toArray k}/\m8 vs its/\k9 X.K H' done vs/\vs.length<=i/\qV X.K H' (List.replicate T.length none++ρ) σ' /\
   rQ stf cf ef (ds.drop i) (List.replicate T.length none++ρ)=some rest/\out=done++rest) ?_ ds.length
   ⟨0,_,H,[],[],0,[],out,by omega,M_ _,I0,Tn.keep _ _ _ st (fun b hb o e=>old b o e),fun b hb=>(hf b hb).1,I.hok.fresh hle,l0.refl H,hacc,.nil,rfl,M_ _,er.front T.length (List.replicate T.length none) (by simp),by simpa using hout,rfl⟩
  rintro n s' ⟨i,σ',H',vs,its,k,done,rest,rfl,hi,I',st',hn',hna,sm,ho,hv,hrd,hvl,er',hrest,hsum⟩
  have Ip:=I'.pinned (fp:=[a]) (hAok hna) fun b hb=>by
   cases Mr.mp hb
   exact⟨_,ho,fun v z=>by cases z⟩
  generalize hP:([]:List (Ml×Obj))++uh [a] s'.heap=P at Ip
  have hPm:(a,({cls:=.type "list",data:=.seq its.toArray k}:Obj))∈P:=by rw[<- hP];exact MA _ (bA (by simp) ho)
  have hPa:∀p∈P,p.1∉fp:=fun p hp z=>by
   rw[<- hP] at hp
   obtain⟨q,_⟩:=wF hp
   rw[Mr.mp q] at z
   exact hAfp z
  by_cases hlt':i<ds.length
  ·have hd:ds[i]?=some ds[i]:=by simp[hlt']
   obtain⟨hgo,hy⟩:=y.1 i ds[i] H' (Kp.of sm) hd
   rw[Nj hlt'] at hrest
   obtain⟨ρ1,e1,hrest⟩:=i9 hrest
   obtain⟨b,e2,hrest⟩:=i9 hrest
   obtain⟨o,e3,hrest⟩:=i9 hrest
   obtain⟨rest',e4,e5⟩:=rm hrest
   obtain⟨τ,hτ,hρ1⟩:=hst ds[i] (List.replicate T.length none) ρ ρ1 (by simp) e1
   refine qW (Tn.item (uU X T scope C fp s H) rfl rfl rfl hc i P s' σ' H' (fun _ _=>False) Ip (hfpok hn' hPa) st' hgo) fun r s1 ⟨u,hr,h4⟩=>?_
   subst hr
   refine qW h4 fun _ s2 ⟨x,H2',I2,r2,y2,st2,fr2⟩=>?_
   obtain⟨s12,rx⟩:=hy x H2' y2
   have I3:=I2.pinned (fp:=fp) (hfpok fr2 hPa) (Tn.obj _ _ st2)
   refine qW (hg C s H fp _ s2 σ' H2' x u (fun σ3 H3=>l0 H2' H3/\qV X.K H3 ρ1 σ3) I3 r2 ⟨_,_,ds[i],ρ1,(er'.mono s12).t,rx,e1,fun σ3 H3 s3 er3=>⟨s3,er3.1⟩⟩) fun _ s3 ⟨σ3,H3,I4,s23,er3⟩=>?_
   refine qW (hcnd C s H fp _ s3 σ3 H3 (fun b' H4=>b'=b/\l0 H3 H4) I4 ⟨ρ1,b,er3,e2,fun H4 s4=>⟨rfl,s4⟩⟩) fun b' s4 ⟨H4,I5,hb',s34⟩=>?_
   subst hb'
   have fin:∀{H5:Hp} {s5:Mi},L2.Inv (uU X T scope C fp s H) (P++uh fp s2.heap) σ3 H5 s5->(∀b∈fp,H5 b=none)/\H5 a=none/\s5.heap.get? a=some {cls:=.type "list",data:=.seq its.toArray k}/\(∀b∈fp,∀o,s2.heap.get? b=some o->s5.heap.get? b=some o):=fun {H5 s5} I6=>by
    refine⟨fun b hb=>?_,(I6.pin _ (MA _ (Nr _ hPm))).2.1,(I6.pin _ (MA _ (Nr _ hPm))).1,fun b hb o e=>(I6.pin (b,o) (MA _ (MA _ (bA hb e)))).1⟩
    obtain⟨o,e,_⟩:=Tn.obj _ _ st2 b hb
    exact(I6.pin (b,o) (MA _ (MA _ (bA hb e)))).2.1
   have unpin:∀{H5:Hp} {s5:Mi},L2.Inv (uU X T scope C fp s H) (P++uh fp s2.heap) σ3 H5 s5->L2.Inv (uU X T scope C fp s H) [] σ3 H5 s5:=fun I6=>I6.pins_of fun p hp=>MY hp (by simp)
   have erb:∀{H5:Hp},l0 H3 H5->qV X.K H5 (List.replicate T.length none++ρ) σ3:=fun s5=>by
    have z:=er3.mono s5
    rw[hρ1] at z
    have z2:=z.forget
    rw[hτ] at z2
    exact z2
   cases b' with
   | false =>
    cases e3
    rw[Mx Mt]
    obtain⟨q1,q2,q3,q4⟩:=fin I5
    have sm4:l0 H H4:=sm.trans (s12.trans (s23.trans s34))
    have smr:l0 H' H4:=s12.trans (s23.trans s34)
    exact⟨ds.length - (i+1),by omega,i+1,σ3,H4,vs,its,k,done,rest',rfl,hlt',unpin I5,Tn.keep _ _ _ st2 q4,q1,q2,sm4,q3,hv,hrd.mono smr,Nat.le_succ_of_le hvl,erb s34,e4,by rw[hsum,<- e5]⟩
   | true =>
    rw[Mo rfl] at e3 ⊢
    obtain⟨yv,e6,e7⟩:=rm e3
    subst e7
    refine qW (he C s H fp _ s4 σ3 H4 (fun v H5=>l0 H4 H5/\Rep X.K H5 yv v) I5 ⟨ρ1,yv,er3.mono s34,e6,fun v H5 s5 r5=>⟨s5,r5⟩⟩) fun xv s5 ⟨v,H5,I6,rv,s45,ry⟩=>?_
    obtain⟨q1,q2,q3,q4⟩:=fin I6
    have hl:=hv.length
    refine call_meets F.slot_list_append ⟨_,q3,rfl⟩ F.entry_list_append (F.args_list_append_2 _ _) (PySem.list_append a its.toArray k xv (by rw[Mz];omega)) ⟨q3,?_⟩
    have q:=PySem.IsL.update q3 (fun xs=>xs.push xv)
    have sm5:l0 H H5:=sm.trans (s12.trans (s23.trans (s34.trans s45)))
    have smr:l0 H' H5:=s12.trans (s23.trans (s34.trans s45))
    have I7:L2.Inv (uU X T scope C fp s H) [] σ3 H5 {s5 with heap:=s5.heap.update a (Obj.mapSeq fun xs=>xs.push xv),toks:=s5.toks}:=
     (unpin I6).turned (it:=a) (t':=s5.toks) (fun b ob hb hu=>(MT s5.heap _ (Ne.symm hb)).trans hu) q2 haC (.inr hle) (hcells a (Mw _)) fun p hp=>MY (show p∈([]:List (Ml×Obj)) from hp) (by simp)
    refine⟨ds.length - (i+1),by omega,i+1,σ3,H5,vs++[v],its++[xv],(if (its.toArray.push xv).size==its.toArray.size then k else k+1),done++[yv],rest',rfl,hlt',I7,Tn.keep _ _ _ st2 fun b hb ob e=>?_,q1,q2,sm5,?_,hv.append (.cons rv .nil),(hrd.mono smr).append (k9.one ry),by simp;omega,erb (s34.trans s45),e4,by rw[hsum,<- e5];simp⟩
    ·have hne:b≠a:=fun z=>hAfp (z ▸ hb)
     exact(MT s5.heap _ (Ne.symm hne)).trans (q4 b hb ob e)
    ·have z:its.toArray.push xv=(its++[xv]).toArray:=by simp
     rw[<- z]
     exact q
  ·have ei:i=ds.length:=by omega
   subst ei
   rw[List.drop_length] at hrest
   cases hrest
   rw[M5] at hsum
   subst hsum
   refine qW (Tn.done (uU X T scope C fp s H) rfl rfl rfl hc ds.length P s' σ' H' (fun _ _=>False) Ip (hfpok hn' hPa) st' (y.2 _ H' (Kp.of sm) (Mw _))) fun r s1 ⟨hr,I1⟩=>?_
   subst hr
   have ho1:=(I1.pin _ (MA _ hPm)).1
   have IX:L2.Inv X pins σ H' s1:=I.call' (ch:=fp) I1.os I1.base I1.hok I1.bare fun b hb=>⟨(hf b hb).2.2.2.1,(hf b hb).2.1,(hf b hb).2.2.2.2.1,(hf b hb).2.2.2.2.2⟩
   have fA:uB X pins H' a:=I.fpOk hle hna
   have s2:=bf hna (.lst vs)
   refine hRR a C (upd H' a (.lst vs)) s1 vs (sm.trans s2) ay (hrd.mono s2) (Gw IX fA ⟨MN hvl hz,its,k,hv,ho1⟩) (I.fpOk hCle ?_) (let ⟨m,q,_⟩:=I1.loc;⟨m,q⟩)
   rw[ar (Ne.symm haC)]
   exact I1.free
 exact codeAny_compStart_list loop (Tn.self _ _ _ _ _ (Tn.keep _ _ _ st fun b hb o e=>old b o e) loop)
variable{elt iter tg:MJ}{ifs:List MJ}{pos p2:Pos}{itf:R->Me LD}{stf:D->R->Me R}{cf:R->Me Bool}{ef:R->OD}
theorem ga(I:L2.Inv X pins σ H s)(ck:xE scope X.env.scope T X.N):closureFor scope X.env=pure (si scope.names X.env.cells []):=A0 fun p hp hf=>I.ok.has p.1 (ck.free p hp hf)
theorem kJ(hc:X.calm=true)(hi:SI X tg iter itf)(hg:∀C s₃ H₃ fp,SG (uU X T scope C fp s₃ H₃) tg stf)(hcnd:∀C s₃ H₃ fp,Jd (uU X T scope C fp s₃ H₃) ifs cf)(he:∀C s₃ H₃ fp,SE (uU X T scope C fp s₃ H₃) elt ef)
  (hst:xc T.length stf) (hnd:(T++X.N).Nodup) (ck:wg scope X.env.scope T X.N=true:=by rfl) (hs:∀x,foldedSetIterable iter X.env x=pure x:=by intro _;rfl) :
  SE X (.ListComp elt [⟨tg,iter,ifs,0⟩] scope pos) (ym T.length itf stf cf ef):=by
 intro pins s σ H Q I hw
 obtain⟨ρ,d,er,e,q⟩:=hw
 obtain⟨ds,e1,e⟩:=i9 e
 have ck':=wK ck
 split at e
 ·rename_i hz
  obtain⟨out,e2,e3⟩:=rm e
  subst e3
  rw[eval_ListComp]
  refine wpAny_comprehension_free (use:=none) rfl hs (ga I ck') ck'.kind ck'.names ?_
  refine qW (hi pins s σ H (fun J H'=>l0 H H'/\sV X.K J ds H') I ⟨ρ,ds,er,e1,fun J H' s1 y=>⟨s1,y⟩⟩) fun v s1 h1=>qW h1 fun itv s2 h2=>?_
  obtain⟨it,fp,tn,J,H',ei,I2,Tn,st,hf,s12,y⟩:=h2
  subst ei
  refine kK (RR:=fun acc C=>compPost (model X.prog X.w) X.A X.xe none (EP X pins σ Q) acc C) I2 hc Tn st hf ck' hnd hst (er.mono s12) y hz e2 hg hcnd he ?_
  intro a C H3 s' vs sm ha hr I3 fC hns
  obtain⟨m,hm⟩:=hns
  refine⟨m,hm,fun h' hsb=>⟨.ref a,H3,?_,rfl,q _ H3 (s12.trans sm) ⟨a,vs,rfl,ha,hr⟩⟩⟩
  obtain⟨f0,f1,f2,f3,f4,f5⟩:=fC
  exact I3.turned (it:=C) (t':=s'.toks) (fun b o hb eb=>(hsb.2 b hb).trans eb) f0 f1 f3 f4 f5
 ·cases e
theorem mr{i:Nat}{x:Str}{py:Pos}{spos:Pos}(hc:X.calm=true)(hN:X.N.Nodup)(hi:SI X tg iter itf)(hg:∀C s₃ H₃ fp,SG (uU X T scope C fp s₃ H₃) tg stf)(hcnd:∀C s₃ H₃ fp,Jd (uU X T scope C fp s₃ H₃) ifs cf)(he:∀C s₃ H₃ fp,SE (uU X T scope C fp s₃ H₃) elt ef)
  (hst:xc T.length stf) (hnd:(T++X.N).Nodup) (hix:X.N[i]?=some x:=by rfl) (hx:Loc X.env.scope x:=by first | exact Or.inl rfl | exact Or.inr rfl) (hfn:X.fn x=true\/X.env.scope.names.lookup x=some .local:=by first | exact .inl rfl | exact .inr rfl)
  (ck:wg scope X.env.scope T X.N=true:=by rfl) (hsw:swapsWith (.ListComp elt [⟨tg,iter,ifs,0⟩] scope pos) (some (.Name x py)) spos.line X.env=pure true:=by rfl) (hs:∀x,foldedSetIterable iter X.env x=pure x:=by intro _;rfl) :
  S1 X (.Assign [.Name x py] (.ListComp elt [⟨tg,iter,ifs,0⟩] scope pos) spos) (n5 (ym T.length itf stf cf ef) (setAt i)):=by
 intro pins s σ H E I hw
 obtain⟨ρ,τ,o,er,e,q⟩:=hw
 obtain⟨d,e0,e⟩:=i9 e
 obtain⟨ρ',e9,e⟩:=rm e
 subst e
 unfold setAt at e9
 split at e9
 case isFalse=>cases e9
 case isTrue hlt =>
 cases e9
 obtain⟨ds,e1,e⟩:=i9 e0
 have ck':=wK ck
 split at e
 ·rename_i hz
  obtain⟨out,e2,e3⟩:=rm e
  subst e3
  rw[exec_Assign_Name_used _ _ _ _ hsw]
  refine Mf (wpAny_standAt (Mf ?_))
  show wpAny _ X.A (do let _ <- comprehension (.ListComp elt [⟨tg,iter,ifs,0⟩] scope pos) scope X.env _ (newList []) false (eval iter X.env) (some (assign (.Name x py) X.env))) _ _ s
  refine Mf (Nu (wpAny_comprehension_free (use:=some (assign (.Name x py) X.env)) (Q:=fun _ s'=>SP X pins E .next s') rfl hs (ga I ck') ck'.kind ck'.names ?_) (fun _ s' hq=>Mm (Mm hq)) fun _ _ z=>z)
  refine qW (hi pins s σ H (fun J H'=>l0 H H'/\sV X.K J ds H') I ⟨ρ,ds,er.1,e1,fun J H' s1 y=>⟨s1,y⟩⟩) fun v s1 h1=>qW h1 fun itv s2 h2=>?_
  obtain⟨it,fp,tn,J,H',ei,I2,Tn,st,hf,s12,y⟩:=h2
  subst ei
  refine kK (RR:=fun acc C=>compPost (model X.prog X.w) X.A X.xe (some (assign (.Name x py) X.env)) (fun _ s'=>SP X pins E .next s') acc C) I2 hc Tn st hf ck' hnd hst (er.1.mono s12) y hz e2 hg hcnd he ?_
  intro a C H3 s' vs sm ha hr I3 fC hns
  obtain⟨m,hm⟩:=hns
  obtain⟨f0,f1,f2,f3,f4,f5⟩:=fC
  show wpAny _ X.A (assign (.Name x py) X.env (.ref a)) _ _ _
  refine wpAny_assign_Name (wL (v:=.ref a) I3 hN hix hx rfl (fun s'' I4 ⟨b,hsb,hb⟩=>?_) hfn)
  have hCb:C≠b:=by
   rcases hb with z | z
   ·exact z ▸ f1
   ·exact Ne.symm (f4 x b z)
  refine⟨m,hm.sameBut hsb hCb,fun h' hsb2=>⟨σ.set i (some (.ref a)),H3,I4.turned (it:=C) (t':=s''.toks) (fun b o hb eb=>(hsb2.2 b hb).trans eb) f0 f1 f3 f4 f5,q H3 (s12.trans sm) _ ?_⟩⟩
  exact(er.mono (s12.trans sm)).set hlt ⟨a,vs,rfl,ha,hr⟩
 ·cases e
end
end HW
namespace HW
open PySem
mutual
def toPy:D->PyData
 | .non=>.none
 | .bl b=>.bool b
 | .int i=>.int i
 | .str x=>.str x
 | .tup xs=>.tuple (tO xs)
 | .lst xs=>.list (tO xs)
 | .fro xs=>.list (tO xs)
 | .obj ..=>.dict []
 | .rf ..=>.dict []
def tO:LD->List PyData
 | []=>[]
 | d::ds=>toPy d::tO ds
end
end HW
set_option maxHeartbeats 1000000
namespace HW
open PySem PySem.Spec PyProof.Rows L2
section
variable{X:Cx}
theorem ints2{K:Mj}{H:Hp}{i j:Int}{xs:List V}(r:k9 K H [.int i,.int j] xs):xs=[.int i,.int j]:=by
 obtain⟨v,r',rfl,r1,w,r'',rfl,r2,r3⟩:=r
 cases (show v=_ from r1)
 cases (show w=_ from r2)
 cases (show r''=[] from r3)
 rfl
theorem ib(hc:X.calm=true):Jy X (.builtin "max") AZ:=(mF hc).imp fun xs H Q ⟨ds,d,r,e,q⟩=>by
 match ds,e with
 | [.int i,.int j],e =>
  cases e
  exact⟨i,j,ints2 r,q _ H (l0.refl H) rfl⟩
mutual
theorem vh{pins:List (Ml×Obj)}{σ:L2.St}{H:Hp}{s:Mi}(I:L2.Inv X pins σ H s):∀{d:D} {v:V} {u:Mg},qU d=true->Rep X.K H d v->RelV v u->∃as,Reads s.heap u (toPy d) as
 | .non,v,u,hn,h,r=>by
  cases (show v=_ from h)
  cases (show u=_ from r)
  exact⟨_,.none⟩
 | .bl b,v,u,hn,h,r=>by
  cases (show v=_ from h)
  cases (show u=_ from r)
  exact⟨_,.bool b⟩
 | .int i,v,u,hn,h,r=>by
  cases (show v=_ from h)
  obtain⟨t,rfl⟩:=r
  exact⟨_,.int i t⟩
 | .str x,v,u,hn,h,r=>by
  cases (show v=_ from h)
  obtain⟨t,rfl⟩:=r
  exact⟨_,.str x t⟩
 | .tup ds,v,u,hn,h,r=>by
  obtain⟨a,xs,rfl,q,t⟩:=h
  cases (show u=_ from r)
  obtain⟨its,rv,⟨o,e,c,n,dd⟩,_⟩:=I.tuple q
  obtain⟨as,ra⟩:=vy I hn t rv
  exact⟨_,.tuple e c dd (by simpa using ra)⟩
 | .lst ds,v,u,hn,h,r=>by
  obtain⟨a,xs,rfl,q,t⟩:=h
  cases (show u=_ from r)
  obtain⟨its,rv,⟨o,n,e,c,_,dd⟩,_⟩:=I.list (ua.of q)
  obtain⟨as,ra⟩:=vy I hn t rv
  exact⟨_,.list e c dd (by simpa using ra)⟩
 | .fro ds,v,u,hn,h,r=>by
  obtain⟨a,xs,rfl,q,t⟩:=h
  cases (show u=_ from r)
  obtain⟨its,rv,⟨o,n,e,c,_,dd⟩,_⟩:=I.list q
  obtain⟨as,ra⟩:=vy I hn t rv
  exact⟨_,.list e c dd (by simpa using ra)⟩
 | .obj ..,v,u,hn,h,r=>by cases hn
 | .rf ..,v,u,hn,h,r=>by cases hn
theorem vy{pins:List (Ml×Obj)}{σ:L2.St}{H:Hp}{s:Mi}(I:L2.Inv X pins σ H s):∀{ds:LD} {vs:List V} {us:List Mg},p8 ds=true->k9 X.K H ds vs->m8 vs us->∃as,ReadsAll s.heap us (tO ds) as
 | [],vs,us,hn,h,r=>by
  cases (show vs=[] from h)
  cases r
  exact⟨_,.nil⟩
 | d::ds,vs,us,hn,h,r=>by
  have hn':(qU d&&p8 ds)=true:=hn
  rw[Mp] at hn'
  obtain⟨v,vr,rfl,h1,h2⟩:=h
  cases r with
  | cons r1 r2 =>
   obtain⟨as,q1⟩:=vh I hn'.1 h1 r1
   obtain⟨bs,q2⟩:=vy I hn'.2 h2 r2
   exact⟨_,.cons q1 q2⟩
end
end
noncomputable def vg(a:Ml)(xs:List V):HO:=.ext fun h=>xs.length<=sizeLine/\∃(its:List Mg) (n:Nat),m8 xs its/\h.get? a=some {cls:=.type "list",data:=.seq its.toArray n}
section
variable{X:Cx}{pins:List (Ml×Obj)}{σ:L2.St}{H:Hp}{s:Mi}{a:Ml}{xs:List V}
theorem mf(I:L2.Inv X pins σ H s)(h:H a=some (vg a xs)):xs.length<=sizeLine/\∃(its:List Mg) (n:Nat),m8 xs its/\s.heap.get? a=some {cls:=.type "list",data:=.seq its.toArray n}:=(I.hok a _ h).1
theorem Be(I:L2.Inv X pins σ H s)(h:H a=some (.lst xs)):L2.Inv X pins σ (upd H a (vg a xs)) s:=by
 obtain⟨z,its,n,r,e⟩:=I.hok a _ h
 have:=I.write (t':=s.toks) (h':=s.heap) (o:=vg a xs) (x:=a) (e:=a) (by rw[h];trivial) (.inl rfl) (fun _ _ _ q=>q) ⟨_,e⟩ ⟨⟨z,its,n,r,e⟩,⟨_,e⟩,fun h1 h2 ⟨z,its,n,r,e⟩ k=>⟨z,its,n,r,k _ e⟩⟩
 exact this
theorem El(I:L2.Inv X pins σ H s)(h:H a=some (vg a xs)):L2.Inv X pins σ (upd H a (.lst xs)) s:=by
 obtain⟨z,its,n,r,e⟩:=mf I h
 have:=I.write (t':=s.toks) (h':=s.heap) (o:=.lst xs) (x:=a) (e:=a) (by rw[h];trivial) (.inl rfl) (fun _ _ _ q=>q) ⟨_,e⟩ ⟨z,its,n,r,e⟩
 exact this
def uw(a:Ml)(H H':Hp):Prop:=∀b u,b≠a->H b=some u->H' b=some u
theorem uw.of{H H':Hp}(h:l0 H H'):uw a H H':=fun b u _ e=>h b u e
theorem uw.trans{H H1 H2:Hp}(h:uw a H H1)(h':uw a H1 H2):uw a H H2:=fun b u n e=>h' b u n (h b u n e)
theorem uw.upd{o:HO}:uw a H (upd H a o):=fun b u n e=>by rw[ar n];exact e
theorem uw.kp{H H':Hp}(h:uw a H H')(ho:H a=some (vg a xs)):Kp H H':=fun b u e n=>by
 by_cases hb:b=a
 ·subst hb
  rw[ho] at e
  cases e
  exact MY rfl (n _)
 ·exact h b u hb e
end
section
variable(K:Mj)
def KG(u:R->LD->Me (Out×LD)):TS:=fun E σ H=>∃ ρ τ a ds xs o ds',qP K H ρ (some (.ref a)::τ) σ/\H a=some (vg a xs)/\k9 K H ds xs/\u ρ ds=some (o,ds') /\
 ∀H' xs',uw a H H'->H' a=some (vg a xs')->k9 K H' ds' xs'->fin K E (some (.ref a)::τ) o H'
def LM(u:R->LD->Me Out):TS:=fun E σ H=>∃ ρ τ a ds xs o,qP K H ρ (some (.ref a)::τ) σ/\H a=some (vg a xs)/\k9 K H ds xs/\u ρ ds=some o/\∀H',uw a H H'->fin K E τ o H'
end
def OS(X:Cx)(st:ML)(u:R->LD->Me (Out×LD)):Prop:=PS X st (KG X.K u)
def Gj(X:Cx)(sts:List ML)(u:R->LD->Me (Out×LD)):Prop:=PSs X sts (KG X.K u)
def OB(X:Cx)(sts:List ML)(u:R->LD->Me Out):Prop:=PSs X sts (LM X.K u)
section
variable{X:Cx}{st:ML}{sts:List ML}{u:R->Me Out}{p q:R->LD->Me (Out×LD)}{pos:Pos}
theorem Fl{E:Ends}{σ:L2.St}{H:Hp}{K:Mj}(h:KG K (AG u) E σ H):Gr K u E σ H:=by
 obtain⟨ρ,τ,a,ds,xs,o,ds',er,ho,rp,e,q⟩:=h
 obtain⟨o1,e1,e2⟩:=rm e
 cases e2
 exact⟨ρ,_,o,er,e1,fun H' s=>q H' xs (uw.of s) (s _ _ ho) (rp.mono s)⟩
theorem nA(h:SS X sts u):Gj X sts (AG u):=PSs.imp h fun E σ H z=>Fl z
theorem gJ:Gj X [] xb:=xy.imp fun E σ H ⟨ρ,τ,a,ds,xs,o,ds',er,ho,rp,e,q⟩=>by
 cases e
 exact q H xs (uw.of (l0.refl H)) ho rp σ er
theorem kn(h1:OS X st p)(h2:Gj X sts q):Gj X (st::sts) (AU p q):=(d_ h1 h2).imp fun E σ H ⟨ρ,τ,a,ds,xs,o,ds',er,ho,rp,e,qq⟩=>by
 obtain⟨⟨o1,ds1⟩,e1,e⟩:=i9 e
 refine⟨ρ,τ,a,ds,xs,o1,ds1,er,ho,rp,e1,fun H1 xs1 k1 ho1 rp1=>?_⟩
 cases o1 with
 | nx ρ2=>exact fun σ2 er2=>⟨ρ2,τ,a,ds1,xs1,o,ds',er2,ho1,rp1,e,fun H2 xs2 k2 ho2 rp2=>qq H2 xs2 (k1.trans k2) ho2 rp2⟩
 | rt d=>cases e;exact qq H1 xs1 k1 ho1 rp1
 | bk ρ2=>cases e;exact qq H1 xs1 k1 ho1 rp1
 | ct ρ2=>cases e;exact qq H1 xs1 k1 ho1 rp1
theorem fB(h:OS X st p):Gj X [st] p:=eP h
theorem mi{c:MJ}{s:R->Me Bool}{B1 B2:List ML}(hc:ST X c s)(ha:Gj X B1 p)(hb:Gj X B2 q):OS X (.If c B1 B2 pos) (EG s p q):=(j7 hc ha hb).imp fun E σ H ⟨ρ,τ,a,ds,xs,o,ds',er,ho,rp,e,qq⟩=>by
 obtain⟨x,e1,e⟩:=i9 e
 refine⟨ρ,x,er.1,e1,fun H1 s1=>?_⟩
 cases x with
 | true=>rw[Mo rfl] at e ⊢;exact⟨ρ,τ,a,ds,xs,o,ds',er.mono s1,s1 _ _ ho,rp.mono s1,e,fun H2 xs2 k2=>qq H2 xs2 ((uw.of s1).trans k2)⟩
 | false=>rw[Mx Mt] at e ⊢;exact⟨ρ,τ,a,ds,xs,o,ds',er.mono s1,s1 _ _ ho,rp.mono s1,e,fun H2 xs2 k2=>qq H2 xs2 ((uw.of s1).trans k2)⟩
theorem nZ{tg iter:MJ}{B:List ML}{it:R->Me LD}{stf:D->R->Me R}(hp:PassesOwn (model X.prog X.w) X.A X.env X.xe)(hc:X.calm=true)(hi:SI X tg iter it)(hg:SG X tg stf)(hb:Gj X B p)
  (hs:∀x,foldedSetIterable iter X.env x=pure x:=by intro _;rfl):OS X (.For tg iter B [] pos) (DK it stf p):=(jn hp hc hi hg hb hs).imp fun E σ H ⟨ρ,τ,a,ls,xs,o,ls',er,ho,rp,e,q⟩=>by
 obtain⟨ds,e1,e⟩:=i9 e
 refine⟨ρ,ds,er.1,e1,fun J H1 s1 y=>?_⟩
 refine⟨fun i m σ' H'=>m=ds.length - i/\i<=ds.length/\uw a H1 H'/\∃ ρ' l xs',qP X.K H' ρ' (some (.ref a)::τ) σ'/\H' a=some (vg a xs')/\k9 X.K H' l xs'/\yw stf p (ds.drop i) ρ' l=some (o,ls'),
  ⟨ds.length,by simp,M_ _,uw.of (l0.refl _),ρ,ls,xs,er.mono s1,s1 _ _ ho,rp.mono s1,by simpa using e⟩,?_⟩
 rintro i m σ' H' ⟨rfl,hi,s2,ρ',l,xs',er',ho',rp',e'⟩
 have kp:Kp H1 H':=s2.kp (s1 _ _ ho)
 by_cases hlt:i<ds.length
 ·refine .inr ?_
  have hd:ds[i]?=some ds[i]:=by simp[hlt]
  obtain⟨hgo,hy⟩:=y.1 i ds[i] H' kp hd
  rw[Nj hlt] at e'
  obtain⟨ρ1,e2,e'⟩:=i9 e'
  obtain⟨⟨o1,l1⟩,e3,e'⟩:=i9 e'
  refine⟨hgo,fun σ2 H2=>i+1<=ds.length/\uw a H1 H2/\∃ ρ' l xs',qP X.K H2 ρ' (some (.ref a)::τ) σ2/\H2 a=some (vg a xs')/\k9 X.K H2 l xs'/\yw stf p (ds.drop (i+1)) ρ' l=some (o,ls'),
   fun σ2 H2 n2=>⟨ds.length - (i+1),by omega,rfl,n2.1,n2.2⟩,fun x H3 yx=>?_⟩
  obtain⟨s3,rx⟩:=hy x H3 yx
  refine⟨ρ',_,ds[i],ρ1,er'.mono s3,rx,e2,fun σ4 H4 s4 er4=>⟨ρ1,τ,a,l,xs',o1,l1,er4,s4 _ _ (s3 _ _ ho'),(rp'.mono s3).mono s4,e3,fun H5 xs5 k5 ho5 rp5=>?_⟩⟩
  have s15:uw a H1 H5:=s2.trans ((uw.of s3).trans ((uw.of s4).trans k5))
  cases o1 with
  | nx ρ2=>exact fun σ6 er6=>⟨hlt,s15,ρ2,l1,xs5,er6,ho5,rp5,e'⟩
  | ct ρ2=>exact fun σ6 er6=>⟨hlt,s15,ρ2,l1,xs5,er6,ho5,rp5,e'⟩
  | bk ρ2=>cases e';exact fun σ6 er6=>q H5 xs5 ((uw.of s1).trans s15) ho5 rp5 σ6 er6
  | rt d=>cases e';exact q H5 xs5 ((uw.of s1).trans s15) ho5 rp5
 ·have e4:i=ds.length:=by omega
  subst e4
  rw[List.drop_length] at e'
  cases e'
  exact .inl ⟨y.2 _ H' kp (Mw _),q H' xs' ((uw.of s1).trans s2) ho' rp' σ' er'⟩
theorem lF{K:Mj}{H:Hp}{ρ:R}{v:V}{τ σ:L2.St}(er:qP K H ρ (some v::τ) σ):σ[ρ.length]?=some (some v):=by
 have:=er.2
 have h0:(σ.drop ρ.length)[0]?=some (some v):=by rw[this];rfl
 rw[List.getElem?_drop] at h0
 simpa using h0
theorem nF{x name:Str}{e:MJ}{px ap cp:Pos}{f:R->OD}{id:String}{r:V->List V->Hp->VK->Prop}{g:LD->D->Me LD}{u:R->LD->Me (Out×LD)}(i:Nat)(slot:Slot "list" name id)(hty:typeOf (.builtin id)=pure (.type "method_descriptor"))(hm:KI X id r)
  (hu:∀ ρ ds o ds',u ρ ds=some (o,ds')->ρ.length=i/\o=.nx ρ/\∃d,f ρ=some d/\g ds d=some ds')
  (hr:∀(H:Hp) (a:Ml) (xs:List V) (v:V) (ds ds':LD) (d:D) (Q:VK),H a=some (vg a xs)->k9 X.K H ds xs->Rep X.K H d v->g ds d=some ds'->(∀xs',k9 X.K H ds' xs'->Q .non (upd (upd H a (.lst xs)) a (.lst xs')))->r (.ref a) [v] (upd H a (.lst xs)) Q)
  (he:SE X e f) (hN:X.N[i]?=some x:=by rfl) (hv:BS X.env.scope x:=by first | exact Or.inl rfl | exact Or.inr (Or.inl rfl) | exact Or.inr (Or.inr rfl)) (hd:(x==("__debug__" : Str))=false:=by decide) (hcd:(x==("__classdict__" : Str))=false:=by decide)
  (hbase:attributeBase (.Name x px) name X.env (eval (.Name x px) X.env)=eval (.Name x px) X.env:=by rfl) (hst:noStar e=true:=by rfl)
  (hline:(ap.endLine==cp.line)=true:=by rfl) (hs:swapsWith (.Call (.Attribute (.Name x px) name ap) [e] [] cp) none pos.line X.env=pure false:=by rfl) :
  OS X (.Expr (.Call (.Attribute (.Name x px) name ap) [e] [] cp) pos) u:=by
 intro pins s σ H E I ⟨ρ,τ,a,ds,xs,o,ds',er,ho,rp,eu,qq⟩
 obtain⟨hi,rfl,d,e1,e2⟩:=hu ρ ds o ds' eu
 have hσ:=lF er
 rw[hi] at hσ
 have hst1:=aE [] X.env hst
 refine wpAny_Expr_any (wpAny_Call_method_late hbase ?_ hline rfl (qW ((pv i (pos:=px) hN hv hd hcd) pins s σ H (fun v H1=>v=.ref a/\H1=H) I ⟨.ref a,hσ,rfl,rfl⟩) fun v s1 ⟨y,H1,I1,r1,ey,eH⟩=>?_)) I.quiet hs
 ·rw[hst1]
  rfl
 subst ey eH
 cases (show v=_ from r1)
 obtain⟨z,its,n,rv,eo⟩:=mf I1 ho
 refine⟨"list",id,PySem.F.plainAttrs_list,slot,hty,⟨_,eo,rfl⟩,fun b eb=>?_,?_⟩
 ·cases eb
  exact⟨_,eo,rfl⟩
 have hA:=(ac he af hst).1 cp pins s1 σ H1 (fun vs H2=>l0 H1 H2/\k9 X.K H2 [d] vs) I1 ⟨ρ,[d],er.1,by show(f ρ).bind _=_;rw[e1];rfl,fun vs H2 s2 r2=>⟨s2,r2⟩⟩
 rw[hst1] at hA ⊢
 refine Calls.callWith_builtin rfl (Calls.evalArgs_plain ?_)
 refine qW hA fun us s2 ⟨vs,H2,I2,r2,s12,rd⟩=>?_
 obtain⟨w,w',rfl,rw1,rw2⟩:=rd
 cases (show w'=[] from rw2)
 have ho2:=s12 _ _ ho
 have I3:=El I2 ho2
 refine qW (hm pins s2 σ (upd H2 a (.lst xs)) (.ref a) [w] (.ref a) us (fun v H3=>∃xs',k9 X.K H2 ds' xs'/\H3=upd (upd H2 a (.lst xs)) a (.lst xs')) I3 rfl r2 (hr H2 a xs w ds ds' d _ ho2 (rp.mono s12) rw1 e2 fun xs' rp'=>⟨xs',rp',rfl⟩)) fun v s3 ⟨v',H3,I4,_,xs',rp',e3⟩=>?_
 subst e3
 have I5:=Be I4 ay
 generalize hH5:upd (upd (upd H2 a (.lst xs)) a (.lst xs')) a (vg a xs')=H5 at I5
 have k25:uw a H2 H5:=by
  subst hH5
  exact uw.upd.trans (uw.upd.trans uw.upd)
 have ho5:H5 a=some (vg a xs'):=by subst hH5;exact ay
 have k15:uw a H1 H5:=(uw.of s12).trans k25
 refine⟨σ,H5,I5,qq H5 xs' k15 ho5 (rp'.kp (k25.kp ho2)) σ (er.kp (k15.kp ho))⟩
theorem jF{x:Str}{e:MJ}{px ap cp:Pos}{f:R->OD}(i:Nat)(he:SE X e f)(hN:X.N[i]?=some x:=by rfl)(hv:BS X.env.scope x:=by first | exact Or.inl rfl | exact Or.inr (Or.inl rfl) | exact Or.inr (Or.inr rfl))(hd:(x==("__debug__" : Str))=false:=by decide)(hcd:(x==("__classdict__" : Str))=false:=by decide)
  (hbase:attributeBase (.Name x px) "append" X.env (eval (.Name x px) X.env)=eval (.Name x px) X.env:=by rfl) (hst:noStar e=true:=by rfl)
  (hline:(ap.endLine==cp.line)=true:=by rfl) (hs:swapsWith (.Call (.Attribute (.Name x px) "append" ap) [e] [] cp) none pos.line X.env=pure false:=by rfl) :
  OS X (.Expr (.Call (.Attribute (.Name x px) "append" ap) [e] [] cp) pos) (zY i f):=by
 refine nF (g:=fun ds d=>if ds.length<sizeLine then some (ds++[d]) else none) (f:=f) i PySem.F.slot_list_append PySem.F.type_list_append iX ?_ ?_ he hN hv hd hcd hbase hst hline hs
 ·intro ρ ds o ds' h
  obtain⟨d,e1,h⟩:=i9 h
  split at h
  ·rename_i hc
   cases h
   exact⟨hc.1,rfl,d,e1,Mo hc.2⟩
  ·cases h
 ·intro H a xs v ds ds' d Q ho rp rd e q
  split at e
  ·rename_i hc
   cases e
   exact⟨a,xs,v,rfl,rfl,ay,by rw[<- rp.length];exact hc,q _ (rp.append (k9.one rd))⟩
  ·cases e
theorem oi{x:Str}{e:MJ}{px ap cp:Pos}{f:R->OD}(i:Nat)(he:SE X e f)(hN:X.N[i]?=some x:=by rfl)(hv:BS X.env.scope x:=by first | exact Or.inl rfl | exact Or.inr (Or.inl rfl) | exact Or.inr (Or.inr rfl))(hd:(x==("__debug__" : Str))=false:=by decide)(hcd:(x==("__classdict__" : Str))=false:=by decide)
  (hbase:attributeBase (.Name x px) "extend" X.env (eval (.Name x px) X.env)=eval (.Name x px) X.env:=by rfl) (hst:noStar e=true:=by rfl)
  (hline:(ap.endLine==cp.line)=true:=by rfl) (hs:swapsWith (.Call (.Attribute (.Name x px) "extend" ap) [e] [] cp) none pos.line X.env=pure false:=by rfl) :
  OS X (.Expr (.Call (.Attribute (.Name x px) "extend" ap) [e] [] cp) pos) (A7 i f):=by
 refine nF (g:=fun ds d=>match d with | .lst es=>if ds.length+es.length<=sizeLine then some (ds++es) else none | _=>none) (f:=f) i PySem.F.slot_list_extend PySem.F.type_list_extend mM ?_ ?_ he hN hv hd hcd hbase hst hline hs
 ·intro ρ ds o ds' h
  obtain⟨d,e1,h⟩:=i9 h
  cases d with
  | lst es =>
   dsimp only at h
   split at h
   ·rename_i hc
    cases h
    exact⟨hc.1,rfl,_,e1,Mo hc.2⟩
   ·cases h
  | _=>cases h
 ·intro H a xs v ds ds' d Q ho rp rd e q
  cases d with
  | lst es =>
   dsimp only at e
   split at e
   ·rename_i hc
    cases e
    obtain⟨b,zs,rfl,hb,rz⟩:=rd
    have hne:b≠a:=fun z=>by
     rw[z,ho] at hb
     cases hb
    exact⟨a,b,xs,zs,rfl,rfl,ay,by rw[ar hne];exact hb,by rw[<- rp.length,<- rz.length];exact hc,q _ (rp.append rz)⟩
   ·cases e
  | _=>cases e
theorem fu{w:R->LD->Me Out}(h1:OS X st p)(h2:OB X sts w):OB X (st::sts) (vM p w):=(d_ h1 h2).imp fun E σ H ⟨ρ,τ,a,ds,xs,o,er,ho,rp,e,qq⟩=>by
 obtain⟨⟨o1,ds1⟩,e1,e⟩:=i9 e
 refine⟨ρ,τ,a,ds,xs,o1,ds1,er,ho,rp,e1,fun H1 xs1 k1 ho1 rp1=>?_⟩
 cases o1 with
 | nx ρ2=>exact fun σ2 er2=>⟨ρ2,τ,a,ds1,xs1,o,er2,ho1,rp1,e,fun H2 k2=>qq H2 (k1.trans k2)⟩
 | rt d=>cases e;exact qq H1 k1
 | bk ρ2=>cases e
 | ct ρ2=>cases e
theorem jk(h:SS X sts u):OB X sts (ye u):=by
 intro pins s σ H E I ⟨ρ,τ,a,ds,xs,o,er,ho,rp,e,qq⟩
 have I2:=El I ho
 have k:uw a H (upd H a (.lst xs)):=uw.upd
 have hσ:=lF er
 have er2:=er.kp (k.kp ho)
 refine h pins s σ _ E I2 ⟨ρ++[some (D.lst ds)],τ,o,⟨⟨?_,fun i d hd=>?_⟩,?_⟩,(show u (ρ++[some (D.lst ds)])=some o from e),fun H' s'=>qq H' (k.trans (uw.of s'))⟩
 ·have:=(MG.mp hσ).1
  rw[MP,List.length_singleton]
  exact this
 ·by_cases hi:i<ρ.length
  ·rw[Nh hi] at hd
   exact er2.1.2 i d hd
  ·by_cases hi2:i=ρ.length
   ·subst hi2
    rw[M0 (Mw _),Nat.sub_self] at hd
    cases hd
    exact⟨_,hσ,a,xs,rfl,ay,rp.kp (k.kp ho)⟩
   ·rw[Np (by simp;omega)] at hd
    cases hd
 ·rw[MP,List.length_singleton,<- List.drop_drop,er.2]
  rfl
theorem jU{x:Str}{es:List MJ}{F:R->Me LD}{w:R->LD->Me Out}{px p1:Pos}(i:Nat)(hN:X.N.Nodup)(hF:SA X es F)(h2:OB X sts w)(hix:X.N[i]?=some x:=by rfl)(hx:Loc X.env.scope x:=by first | exact Or.inl rfl | exact Or.inr rfl)
  (hl:Nat.ble es.length 1000=true:=by rfl) (hs:swapsWith (.List es p1) (some (.Name x px)) pos.line X.env=pure false:=by rfl) (hf:X.fn x=true\/X.env.scope.names.lookup x=some .local:=by first | exact .inl rfl | exact .inr rfl) :
  SS X (.Assign [.Name x px] (.List es p1) pos::sts) (DF i F w):=by
 intro pins s σ H E I ⟨ρ,τ,o,er,e,qq⟩
 obtain⟨ds,e1,e⟩:=i9 e
 split at e
 case isFalse=>cases e
 case isTrue hlen =>
 refine wpAny_execs_cons (qW ((kZ (i:=i) hN hix hx (kY hF.1) hs hf) pins s σ H {E with nx:=fun σ' H'=>∃a vs H1,σ'=σ.set i (some (.ref a))/\H'=upd H1 a (.lst vs)/\H1 a=none/\l0 H H1/\k9 X.K H1 ds vs} I ?_) fun f s1 q=>?_)
 ·refine⟨ρ,ds,er.1,e1,fun vs H1 s1 r1=>⟨?_,fun a ha=>⟨a,vs,H1,rfl,rfl,ha,s1,r1⟩⟩⟩
  rw[<- r1.length,hF.2.1 ρ ds e1]
  exact Nat.le_of_lt (wC (Nat.le_of_ble_eq_true hl))
 cases f with
 | next =>
  obtain⟨σ',H',I',a,vs,H1,rfl,rfl,ha,s1',r1⟩:=q
  have I2:=Be I' ay
  generalize hH2:upd (upd H1 a (.lst vs)) a (vg a vs)=H2 at I2
  have k12:uw a H1 H2:=by
   subst hH2
   exact uw.upd.trans uw.upd
  have s12:l0 H1 H2:=fun b u hb=>k12 b u (fun z=>by rw[z,ha] at hb;cases hb) hb
  have ho2:H2 a=some (vg a vs):=by subst hH2;exact ay
  have hσi:i<σ.length:=MB (by omega) er.1.1
  refine h2 pins s1 _ H2 E I2 ⟨ρ.take i,τ,a,ds,vs,o,⟨⟨?_,fun j d hd=>?_⟩,?_⟩,ho2,r1.mono s12,e,fun H' k=>qq H' fun b u hb=>?_⟩
  ·simp
   omega
  ·have hj:j<i:=by
    have:=(MG.mp hd).1
    simp at this
    omega
   rw[List.getElem?_take_of_lt hj] at hd
   obtain⟨v,h1,h2⟩:=er.1.2 j d hd
   exact⟨v,by rw[MW (by omega)];exact h1,(h2.mono s1').mono s12⟩
  ·have hd:σ.drop (i+1)=τ:=by rw[<- hlen];exact er.2
   rw[NB,Nat.min_eq_left (by omega),Nj (by simpa using hσi)]
   congr 1
   ·simp
   ·rw[List.drop_set_of_lt (by omega)]
    exact hd
  ·have hb2:=s12 _ _ (s1' _ _ hb)
   exact k b u (fun z=>by
    have q:=s1' _ _ hb
    rw[z,ha] at q
    cases q) hb2
 | brk=>exact q
 | cont=>exact q
 | ret v=>exact q
end
mutual
theorem h_:∀d:D,rM d=true->(toPy d).canLay0=true
 | .non,_=>by simp[toPy,PyData.canLay0]
 | .bl _,_=>by simp[toPy,PyData.canLay0]
 | .int _,_=>by simp[toPy,PyData.canLay0]
 | .str _,h=>by rw[rM] at h;simpa [toPy,PyData.canLay0,PyData.strOk] using h
 | .tup ds,h=>by rw[toPy,PyData.canLay0];exact gK ds h
 | .lst ds,h=>by rw[toPy,PyData.canLay0];exact gK ds h
 | .fro ds,h=>by rw[toPy,PyData.canLay0];exact gK ds h
 | .obj ..,h=>by cases h
 | .rf ..,h=>by cases h
theorem gK:∀ds:LD,tR ds=true->PyData.canLayAll0 (tO ds)=true
 | [],_=>by simp[tO,PyData.canLayAll0]
 | d::ds,h=>by
  have h':(rM d&&tR ds)=true:=h
  rw[Mp] at h'
  rw[tO,PyData.canLayAll0,h_ d h'.1,gK ds h'.2];rfl
end
mutual
theorem oB:∀d:D,qU d=true->(toPy d).depth=uu d
 | .non,_=>by simp[toPy,PyData.depth,uu]
 | .bl _,_=>by simp[toPy,PyData.depth,uu]
 | .int _,_=>by simp[toPy,PyData.depth,uu]
 | .str _,_=>by simp[toPy,PyData.depth,uu]
 | .tup ds,h=>by rw[toPy,PyData.depth,uu,gL ds h]
 | .lst ds,h=>by rw[toPy,PyData.depth,uu,gL ds h]
 | .fro ds,h=>by rw[toPy,PyData.depth,uu,gL ds h]
 | .obj ..,h=>by cases h
 | .rf ..,h=>by cases h
theorem gL:∀ds:LD,p8 ds=true->PyData.depthAll (tO ds)=ud ds
 | [],_=>by simp[tO,PyData.depthAll,ud]
 | d::ds,h=>by
  have h':(qU d&&p8 ds)=true:=h
  rw[Mp] at h'
  rw[tO,PyData.depthAll,ud,oB d h'.1,gL ds h'.2]
end
mutual
theorem A4:∀x y:D,qU x=true->qU y=true->PyData.eqv (toPy x) (toPy y)=Gf x y
 | .non,y,_,h=>by cases y<;>first | rfl | cases h
 | .bl a,y,_,h=>by cases y<;>first | rfl | cases h
 | .int a,y,_,h=>by cases y<;>first | rfl | cases h
 | .str a,y,_,h=>by cases y<;>first | rfl | cases h
 | .tup xs,y,g,h=>by
  cases y with
  | tup ys=>exact vv xs ys g h
  | obj _ _ _ _=>cases h
  | rf _=>cases h
  | _=>rfl
 | .lst xs,y,g,h=>by
  cases y with
  | lst ys=>exact vv xs ys g h
  | fro ys=>exact vv xs ys g h
  | obj _ _ _ _=>cases h
  | rf _=>cases h
  | _=>rfl
 | .fro xs,y,g,h=>by
  cases y with
  | lst ys=>exact vv xs ys g h
  | fro ys=>exact vv xs ys g h
  | obj _ _ _ _=>cases h
  | rf _=>cases h
  | _=>rfl
 | .obj ..,y,g,h=>by cases g
 | .rf ..,y,g,h=>by cases g
theorem vv:∀xs ys:LD,p8 xs=true->p8 ys=true->PyData.eqvAll (tO xs) (tO ys)=yA xs ys
 | [],[],_,_=>rfl
 | [],_::_,_,_=>rfl
 | _::_,[],_,_=>rfl
 | x::xs,y::ys,g,h=>by
  have g':(qU x&&p8 xs)=true:=g
  have h':(qU y&&p8 ys)=true:=h
  rw[Mp] at g' h'
  show(PyData.eqv (toPy x) (toPy y)&&PyData.eqvAll (tO xs) (tO ys))=(Gf x y&&yA xs ys)
  rw[A4 x y g'.1 h'.1,vv xs ys g'.2 h'.2]
end
section
variable{X:Cx}
theorem yF{k:Nat}(hr:ri k X.A){dx dy:D}(h:uu dx<=100)(hn:qU dx=true):X.A.units+min (toPy dx).depth (toPy dy).depth<cLine:=by
 have h1:=hr.un
 have h2:min (toPy dx).depth (toPy dy).depth<=100:=by rw[oB dx hn];omega
 omega
theorem pM{k:Nat}(hr:ri k X.A):BK X .Eq zj:=by
 intro pins s σ H x y v u Q I rx ry h
 obtain⟨dx,dy,b,r1,r2,e,q⟩:=h
 unfold zj at e
 split at e
 ·rename_i hd
  cases e
  obtain⟨as,ra⟩:=vh I (bD hd.2.1) r1 rx
  obtain⟨bs,rb⟩:=vh I (bD hd.2.2) r2 ry
  have z:=SeqAt.rcAt_reads ra rb (h_ dx hd.2.1) (h_ dy hd.2.2) (yF (dy:=dy) hr hd.1 (bD hd.2.1))
  rw[A4 _ _ (bD hd.2.1) (bD hd.2.2)] at z
  exact z _ _ _ _ ⟨.bl (Gf dx dy),H,I,rfl,q⟩
 ·cases e
theorem oI{k:Nat}(hr:ri k X.A):BK X .NotEq Ac:=by
 intro pins s σ H x y v u Q I rx ry h
 obtain⟨dx,dy,b,r1,r2,e,q⟩:=h
 unfold Ac zj at e
 split at e
 ·rename_i hd
  cases e
  obtain⟨as,ra⟩:=vh I (bD hd.2.1) r1 rx
  obtain⟨bs,rb⟩:=vh I (bD hd.2.2) r2 ry
  have z:=SeqAt.rcNeAt_reads ra rb (h_ dx hd.2.1) (h_ dy hd.2.2) (yF (dy:=dy) hr hd.1 (bD hd.2.1))
  rw[A4 _ _ (bD hd.2.1) (bD hd.2.2)] at z
  exact PySem.EqBoolInt.of_rcne z ⟨.bl (!Gf dx dy),H,I,rfl,q⟩
 ·cases e
end
section
variable{prog:Mv}{w:MH}{A:MQ}{R':Result->Mi->Prop}{I:Ml}{fp wr:List Ml}{n:Nat}{P:Nat->Mg->Prop}{St:Nat->MI->Prop}
abbrev Fm:List (Str×Mg):=[(oS "default",Value.none)]
abbrev Jq(S:Ml)(vs:Array Mg)(c:Nat)(h:MI):Prop:=h.get? S=some {cls:=.type "list",dict:=none,data:=.seq vs c,slots:=#[]}
theorem vA:(toString "max" ++ toString ".loop" : String) = "max.loop":=by decide
theorem FF(W:Walks prog w A.in1 I fp wr n P St)(bt:Nat->Nat->Bool)(hcmp:CmpOf prog w A.in1 .Gt P bt)(S:Ml)(hSf:S∉fp):∀(k j:Nat) (s:Mi) (vb:Mg) (c:Nat),n - (j+1)=k->j+1<=n->St (j+1) s.heap->P (argBest bt j) vb->Jq S #[vb,vb] c s.heap ->
  (∀v h' tk,P (argBest bt (n - 1)) v->(∀b o,b∉wr->b≠S->s.heap.get? b=some o->h'.get? b=some o)->R' (.ok (.ret v)) {s with heap:=h',toks:=tk})->codeAny (model prog w) A (.builtin "max.loop" ⟨[.ref I,.none,.ref S],Fm⟩) R' s:=by
 have hSw:S∉wr:=fun z=>hSf (W.sub _ z)
 intro k
 induction k with
 | zero =>
  intro j s vb c hk hj hst hPb hS hR
  have hin:j+1=n:=by omega
  refine Ny F.entry_max_loop ?_;rw[Around.under_plainId F.plain_max_loop _];show wpAny _ A.in1 (seqItems? (.ref S) >>= _) _ _ s
  refine Mf (wpAny_seqItems hS rfl ?_);show wpAny _ A.in1 (tryCatch (pyNext (.ref I)) _ >>= _) _ _ s
  refine Mf (wpAny_tryCatch (W.done s _ _ (hin ▸ hst) fun h1 t1 k1=>?_));have hS1:=k1 S _ hSw hS
  show wpAny _ A.in1 (updateSeq S (fun _=>#[]) >>= _) _ _ _;refine Mf (wpAny_updateSeq hS1 rfl (Mf (wpAny_letGo (Mm ?_))))
  exact hR vb _ t1 (by rw[<- hin];exact hPb) fun b o hbw hbS e=>(MT _ _ (Ne.symm hbS)).trans (k1 b o hbw e)
 | succ k ih =>
  intro j s vb c hk hj hst hPb hS hR
  have hlt:j+1<n:=by omega
  refine Ny F.entry_max_loop ?_;rw[Around.under_plainId F.plain_max_loop _];show wpAny _ A.in1 (seqItems? (.ref S) >>= _) _ _ s
  refine Mf (wpAny_seqItems hS rfl ?_);show wpAny _ A.in1 (tryCatch (pyNext (.ref I)) _ >>= _) _ _ s
  refine Mf (wpAny_tryCatch (W.item (j+1) s _ _ hlt hst fun v h1 t1 hP st1 k1=>?_));have hS1:=k1 S _ hSw hS
  show wpAny _ A.in1 (tryCatch (holding [v,v] (richCompare .Gt v vb >>= _)) _ >>= _) _ _ _;refine Mf (wpAny_tryCatch (wpAny_holding (Mf (hcmp (j+1) (argBest bt j) v vb _ _ _ hP hPb ?_))))
  refine Mf (wpAny_holding (wpAny_truthy_bool ?_));refine Mf (wpAny_letGo (Mm ?_))
  cases hb:bt (j+1) (argBest bt j) with
  | true =>
   simp only[if_true];refine Mf (wpAny_updateSeq hS1 rfl (Mf (wpAny_letGo ?_)));rw[vA]
   refine Mm ⟨plainId_quiet F.plain_max_loop _,ih (j+1) _ v _ (by omega) hlt (W.frame _ _ _ st1 fun b hbf o e=>?_) (by simp only[argBest,hb,if_true];exact hP) (Nq _ hS1 rfl) fun v' h2 t2 hP' k2=>?_⟩
   ·refine(MT _ _ fun z:S=b=>hSf ?_).trans e;rw[z];exact hbf
   ·refine hR v' h2 t2 hP' fun b o hbw hbS e=>k2 b o hbw hbS ?_;exact(MT _ _ (Ne.symm hbS)).trans (k1 b o hbw e)
  | false =>
   simp only[Bool.false_eq_true,if_false];refine Mf (wpAny_letGo ?_);rw[vA]
   refine Mm ⟨plainId_quiet F.plain_max_loop _,ih (j+1) _ vb c (by omega) hlt st1 (by simp only[argBest,hb,Bool.false_eq_true,if_false];exact hPb) hS1 fun v' h2 t2 hP' k2=>?_⟩
   refine hR v' h2 t2 hP' fun b o hbw hbS e=>k2 b o hbw hbS ?_;exact k1 b o hbw e
theorem D6(W:Walks prog w A.in1 I fp wr n P St)(bt:Nat->Nat->Bool)(hcmp:CmpOf prog w A.in1 .Gt P bt)(S:Ml)(hSf:S∉fp){s:Mi}{c:Nat}(hst:St 0 s.heap)(hS:Jq S #[] c s.heap)
  (h0:n=0->∀h' tk,(∀b o,b∉wr->b≠S->s.heap.get? b=some o->h'.get? b=some o)->R' (.ok (.ret .none)) {s with heap:=h',toks:=tk})
  (hR:0<n->∀v h' tk,P (argBest bt (n - 1)) v->(∀b o,b∉wr->b≠S->s.heap.get? b=some o->h'.get? b=some o)->R' (.ok (.ret v)) {s with heap:=h',toks:=tk}):codeAny (model prog w) A (.builtin "max.loop" ⟨[.ref I,.none,.ref S],Fm⟩) R' s:=by
 have hSw:S∉wr:=fun z=>hSf (W.sub _ z)
 refine Ny F.entry_max_loop ?_;rw[Around.under_plainId F.plain_max_loop _];show wpAny _ A.in1 (seqItems? (.ref S) >>= _) _ _ s
 refine Mf (wpAny_seqItems hS rfl ?_);show wpAny _ A.in1 (tryCatch (pyNext (.ref I)) _ >>= _) _ _ s
 by_cases hn:0<n
 ·refine Mf (wpAny_tryCatch (W.item 0 s _ _ hn hst fun v h1 t1 hP st1 k1=>?_));have hS1:=k1 S _ hSw hS
  show wpAny _ A.in1 (updateSeq S (fun _=>#[v,v]) >>= _) _ _ _;refine Mf (wpAny_updateSeq hS1 rfl ?_);rw[vA]
  refine Mm ⟨plainId_quiet F.plain_max_loop _,FF W bt hcmp S hSf _ 0 _ v _ rfl hn (W.frame _ _ _ st1 fun b hbf o e=>?_) hP (Nq _ hS1 rfl) fun v' h2 t2 hP' k2=>?_⟩
  ·refine(MT _ _ fun z:S=b=>hSf ?_).trans e;rw[z];exact hbf
  ·refine hR hn v' h2 t2 hP' fun b o hbw hbS e=>k2 b o hbw hbS ?_;exact(MT _ _ (Ne.symm hbS)).trans (k1 b o hbw e)
 ·have hz:n=0:=by omega
  refine Mf (wpAny_tryCatch (W.done s _ _ (hz ▸ hst) fun h1 t1 k1=>?_))
  refine Mf (wpAny_rule (Mm ?_))
  exact h0 hz h1 t1 fun b o hbw hbS e=>k1 b o hbw e
end
section
variable{prog:Mv}{w:MH}{A:MQ}{E:Mg->Mi->Prop}{s:Mi}
theorem Cu(a:Mg):argsOk "max" ⟨[a],Fm⟩:=by unfold argsOk;kernel_rfl
theorem gc{l:Ml}{its:List Mg}{val:Nat->Int}{Q:Mg->Mi->Prop}(hh:A.handled=none)(hl:s.heap.IsList l its.toArray)(hv:∀(i:Nat) v,its.toArray[i]?=some v->∃t,v=.int (val i) t)
  (h0:its=[]->∀h' tk,(∀b o,s.heap.get? b=some o->h'.get? b=some o)->Q .none {s with heap:=h',toks:=tk})
  (h1:its ≠ []->∀v h' tk,its.toArray[argBest (fun i j=>decide (val i > val j)) (its.length - 1)]?=some v->(∀b o,s.heap.get? b=some o->h'.get? b=some o)->Q v {s with heap:=h',toks:=tk}) :
  wpAny (model prog w) A (call (.builtin "max") [.ref l] Fm) Q E s:=by
 refine wpAny_call (codeAny_call_builtin F.plain_max F.entry_max ?_)
 simp only[checkBuiltinCall,F.kind_max]
 have main:wpAny (model prog w) A.in1 (Builtin.«max» ⟨[.ref l],Fm⟩) (fun fin s'=>match fin with
   | .done f=>(match (Except.ok f:Result) with
    | .ok (.ret v)=>Q v s'
    | .ok _=>False
    | .error e=>E e s')
   | .again c'=>c'.quiet=true/\codeAny (model prog w) A c' (fun r s'=>match r with
    | .ok (.ret v)=>Q v s'
    | .ok _=>False
    | .error e=>E e s') s') E s:=by
  show wpAny _ A.in1 (Builtin.Builtins.bindParams "max" ["key","default"] 0 ⟨[],Fm⟩ >>= _) _ _ s
  refine Mf (wpAny_of_eq (show Builtin.Builtins.bindParams "max" ["key","default"] 0 ⟨[],Fm⟩=pure [none,some .none] from rfl) ?_)
  refine Mf (Mm (Mf (wpAny_pyIter_list hl ?_)))
  refine Mf (Nf ?_)
  rw[vA]
  have hlt:l<s.heap.objs.size:=by
   obtain⟨o,e,_⟩:=hl
   exact MD e
  generalize hI:s.heap.objs.size=J at hlt
  generalize h1e:s.heap.push {cls:=Value.type "list_iterator",data:=Data.fields #[Value.ref l,Value.int 0 0]}=H1
  have hJ:H1.objs.size=J+1:=by rw[<- h1e,Heap.size_push,hI]
  have k1:∀b o,s.heap.get? b=some o->H1.get? b=some o:=fun b o e=>by rw[<- h1e];exact Mh _ e
  have st1:H1.IsListIter J l 0/\H1.IsList l its.toArray:=⟨by rw[<- h1e,<- hI];exact⟨_,Mq _ rfl,rfl,rfl⟩,hl.at fun o e=>k1 _ _ e⟩
  have hne:l≠J:=MM hlt
  have hSf:H1.objs.size ∉ [J,l]:=by
   rw[hJ]
   intro z
   rcases Mu.mp z with z | z
   ·exact MY z (Nat.ne_of_gt (Nv J))
   ·rw[<- Mr.mp z] at hlt
    exact MY hlt (Nat.not_lt.mpr (Nat.le_succ J))
  have W:=Walks.list (prog:=prog) (w:=w) (A:=A.in1) hh J l hne its.toArray
  have old:∀{h':MI},(∀b o,b ∉ [J]->b≠H1.objs.size->(H1.push {cls:=Value.type "list",data:=Data.seq ([]:List Mg).toArray}).get? b=some o->h'.get? b=some o)->∀b o,s.heap.get? b=some o->h'.get? b=some o:=fun kk b o e=>by
   have hb:b<J:=by rw[<- hI];exact MD e
   refine kk b o (fun z=>MY (Mr.mp z) (MM hb)) ?_ (Mh _ (k1 b o e))
   rw[hJ]
   exact MM (Nat.lt_succ_of_lt hb)
  refine Mm ⟨plainId_quiet F.plain_max_loop _,D6 W _ (CmpOf.ints_gt val hv) H1.objs.size hSf (W.frame _ _ _ st1 fun b _ o e=>Mh _ e) (Mq _ rfl) (fun hz h' tk kk=>?_) fun hn v h' tk hP kk=>?_⟩
  ·exact h0 (by simpa using hz) h' tk (old kk)
  ·refine h1 (fun z=>by subst z;simp at hn) v h' tk ?_ (old kk)
   simpa using hP
 cases hsig:Manifest.signature? "max" with
 | none=>exact Mm main
 | some sig =>
  have ha:=Cu (.ref l)
  simp only[argsOk,hsig] at ha
  have h2:Bind.checkArgs "max" sig ⟨[.ref l],Fm⟩=pure ():=ha
  show wpAny _ A.in1 (Bind.checkArgs "max" sig ⟨[.ref l],Fm⟩) _ _ s
  rw[h2]
  exact Mm main
end
section
variable{X:Cx}
theorem pw{e:MJ}{f:R->OD}{p kp p2 pos:Pos}{j:Nat}(hc:X.calm=true)(hm:X.mg "max" = none)(he:SE X e f)(hg:Gl X "max":=by rfl)(hst:noStar e=true:=by rfl) :
  SE X (.Call (.Name "max" p) [e] [⟨some "default",.Constant .none j p2,kp⟩] pos) (i8 Ar (i4 f i7)):=by
 intro pins s σ H Q I ⟨ρ,d,er,eq,q⟩
 obtain⟨ds,e1,e2⟩:=i9 eq
 have hst1:=aE [] X.env hst
 refine Nw (cT I hg hm boot_max ?_ (by decide) (by decide))
 refine callWith_kw (qW ((ac he af hst).1 pos pins s σ H (fun vs H2=>l0 H H2/\k9 X.K H2 ds vs) I ⟨ρ,ds,er,e1,fun vs H2 s2 r2=>⟨s2,r2⟩⟩) fun us s1 ⟨vs,H1,I1,r1,s01,rp⟩=>?_) (by rw[hst1];rfl) (by rw[hst1];rfl) rfl rfl
 refine kws_cons (Constant_none (kws_nil ?_))
 have hh:=I1.ok.hd hc
 match ds,e2 with
 | [.lst []],e2 =>
  cases e2
  obtain⟨v,r',rfl,⟨a,xs,rfl,ha,rx⟩,rr⟩:=rp
  cases (show r'=[] from rr)
  cases (show xs=[] from rx)
  obtain⟨u,rfl,ru⟩:=r1.one
  cases (show u=_ from ru)
  obtain⟨_,its,n,rv,hl,eo⟩:=I1.lstM ha
  cases rv
  exact gc (val:=fun _=>0) hh ⟨_,eo,rfl,n,rfl⟩ (fun i v hv=>by simp at hv) (fun _ h' tk k=>⟨.non,H1,I1.kept k,rfl,q _ H1 s01 rfl⟩) fun z=>MY rfl z
 | [.lst [.int a1]],e2 =>
  cases e2
  obtain⟨v,r',rfl,⟨a,xs,rfl,ha,rx⟩,rr⟩:=rp
  cases (show r'=[] from rr)
  obtain⟨x1,x2,rfl,rx1,rx2⟩:=rx
  cases (show x1=_ from rx1)
  cases (show x2=[] from rx2)
  obtain⟨u,rfl,ru⟩:=r1.one
  cases (show u=_ from ru)
  obtain⟨_,its,n,rv,hl,eo⟩:=I1.lstM ha
  obtain⟨w1,rfl,t1,rfl⟩:=rv.one
  refine gc (val:=fun _=>a1) hh ⟨_,eo,rfl,n,rfl⟩ (fun i v hv=>?_) (fun z=>by cases z) fun _ v h' tk hv k=>?_
  ·have z:=(Array.getElem?_eq_some_iff.mp hv).1
   have z0:i=0:=by simpa using z
   subst z0
   exact⟨t1,(ME hv).symm⟩
  ·have hv':Value.int a1 t1=v:=ME hv
   subst hv'
   exact⟨.int a1,H1,I1.kept k,⟨t1,rfl⟩,q _ H1 s01 rfl⟩
 | [.lst [.int a1,.int a2]],e2 =>
  cases e2
  obtain⟨v,r',rfl,⟨a,xs,rfl,ha,rx⟩,rr⟩:=rp
  cases (show r'=[] from rr)
  have hx:=ints2 rx
  subst hx
  obtain⟨u,rfl,ru⟩:=r1.one
  cases (show u=_ from ru)
  obtain⟨_,its,n,rv,hl,eo⟩:=I1.lstM ha
  obtain⟨w1,w2,rfl,⟨t1,rfl⟩,⟨t2,rfl⟩⟩:=vals2 rv
  refine gc (val:=fun i=>if i=0 then a1 else a2) hh ⟨_,eo,rfl,n,rfl⟩ (fun i v hv=>?_) (fun z=>by cases z) fun _ v h' tk hv k=>?_
  ·have z:=(Array.getElem?_eq_some_iff.mp hv).1
   have z0:i=0\/i=1:=by
    have:i<2:=by simpa using z
    omega
   rcases z0 with rfl | rfl
   ·exact⟨t1,(ME hv).symm⟩
   ·exact⟨t2,(ME hv).symm⟩
  ·by_cases hgt:a2 > a1
   ·have hb:argBest (fun i j=>decide ((if i=0 then a1 else a2) > (if j=0 then a1 else a2))) ([Value.int a1 t1,Value.int a2 t2].length - 1)=1:=by simp[argBest,hgt]
    rw[hb] at hv
    have hv':Value.int a2 t2=v:=ME hv
    subst hv'
    exact⟨.int a2,H1,I1.kept k,⟨t2,rfl⟩,q _ H1 s01 (by show V.int a2=V.int _;rw[Mo hgt])⟩
   ·have hb:argBest (fun i j=>decide ((if i=0 then a1 else a2) > (if j=0 then a1 else a2))) ([Value.int a1 t1,Value.int a2 t2].length - 1)=0:=by simp[argBest,hgt]
    rw[hb] at hv
    have hv':Value.int a1 t1=v:=ME hv
    subst hv'
    exact⟨.int a1,H1,I1.kept k,⟨t1,rfl⟩,q _ H1 s01 (by show V.int a1=V.int _;rw[Mx hgt])⟩
end
section
open PySem.SeqAt
open AutoSeq1 (wpAny_loadPart')
open MeetsSeq MeetsSeq2 MeetsSeq3 SeqRoads2
theorem yC(l:Ml)(items:Array Mg)(n:Nat)(dd:Me Ml)(sl:Array (Me Mg))(x:Mg)(j:Nat)(hj:j<items.size) :
  Meets (Builtin.«tuple.index» ⟨[.ref l,x],[]⟩) (fun A R s=>s.heap.get? l=some {cls:=.type "tuple",dict:=dd,data:=.seq items n,slots:=sl}/\(∀i (h:i<items.size),i<=j->EqAt A.in1 s items[i] x (decide (i=j)))/\R (.ok (.ret (.int (j:Int) s.toks))) {s with toks:=s.toks+1}):=
 .of_wp fun prog w A R s h=>by
  obtain⟨hp,g,d,tk,os⟩:=s
  obtain⟨hl,he,h⟩:=h
  unfold Builtin.«tuple.index»
  simp only[Std.Legacy.Range.forIn_eq_forIn_range']
  wp_walk using wpAny_loadPart' hl,wpAny_forIn_list _ (fun rest b s'=>s'=⟨hp,g,d,tk,os⟩/\b=(none,())/\∃k,k<=j/\rest=List.range' k (items.size - k)) _
  case turn =>
   rintro i rest b s' ⟨rfl,rfl,k,hk,e⟩
   have hs:items.size - k=(items.size - (k+1))+1:=by omega
   rw[hs,List.range'_succ] at e
   cases e
   have hlt:i<items.size:=by omega
   have hi:items[i]?=some items[i]:=by simp[hlt]
   rw[hi]
   refine Mf (he i hlt hk prog w _ _ ?_)
   by_cases hij:i=j
   ·subst hij
    rw[Nc rfl]
    wp_walk
    exact⟨_,rfl,h⟩
   ·rw[MZ hij]
    wp_walk
    exact⟨rfl,rfl,i+1,by omega,rfl⟩
  case fin =>
   rintro b s' ⟨rfl,rfl,k,hk,e⟩
   have hs:items.size - k=(items.size - (k+1))+1:=by omega
   rw[hs,List.range'_succ] at e
   cases e
  case h =>
   refine⟨rfl,rfl,0,M_ _,?_⟩
   simp
end
def Ht(K:Mj)(mg:Str->Me Mg)(x:Str)(ws:List Str):Prop:=∃a its n sl,mg x=some (.ref a)/\K.lookup a=some ⟨.type "tuple",none,.seq its n,sl⟩/\m8 (ws.map V.str) its.toList
section
variable{X:Cx}
def KD(K:Mj):V->List V->Hp->VK->Prop:=fun x vs H Q=>∃(p:Ml) (its:Array Mg) (n:Nat) (sl:Array (Me Mg)) (ws:List Str) (z:Str) (j:Nat),x=.ref p/\vs=[.str z]/\K.lookup p=some ⟨.type "tuple",none,.seq its n,sl⟩/\m8 (ws.map V.str) its.toList/\ws.findIdx? (·==z)=some j/\Q (.int (j:Nat)) H
theorem p_:FC X "tuple.index" (KD X.K):=by
 intro pins s σ H x vs v us Q I rx rv h
 obtain⟨p,its,n,sl,ws,z,j,rfl,rfl,hk,hv,hj,q⟩:=h
 cases (show v=_ from rx)
 obtain⟨u,rfl,t,rfl⟩:=rv.one
 have e:=I.kIn p _ hk
 obtain⟨h1,h2,h3⟩:=List.findIdx?_eq_some_iff_getElem.mp hj
 have hlen:ws.length=its.size:=by have:=hv.length;simpa using this
 refine call_meets F.slot_tuple_index ⟨_,e,rfl⟩ F.entry_tuple_index (F.args_tuple_index_2 _ _) (yC p its n none sl (.str z t) j (by omega)) ⟨e,fun i hi hle=>?_,?_⟩
 ·have hw:i<ws.length:=by omega
  obtain⟨u,hu,ru⟩:=hv.get (i:=i) (x:=.str ws[i]) (by simp[hw])
  obtain⟨t2,rfl⟩:=ru
  have he:its[i]=Value.str ws[i] t2:=by
   have:its[i]?=some (Value.str ws[i] t2):=by simpa using hu
   rw[Nk hi] at this
   exact ME this
  rw[he]
  have hb:(ws[i]==z)=decide (i=j):=by
   by_cases hij:i=j
   ·subst hij
    rw[Nc rfl]
    exact h2
   ·rw[MZ hij]
    exact Bool.eq_false_iff.mpr (h3 i (by omega))
  rw[<- hb]
  exact SeqAt.EqAt.str_str _ _ _ _
 ·exact⟨.int (j:Nat),H,I.tok _,⟨_,rfl⟩,q⟩
theorem ql{x:Str}{ws:List Str}{e:MJ}{f:R->OD}{px ap cp:Pos}(hc:Ht X.K X.mg x ws)(he:SE X e f)(hg:Gl X x:=by rfl)(hd:(x==("__debug__" : Str))=false:=by decide)
  (hbase:attributeBase (.Name x px) "index" X.env (eval (.Name x px) X.env)=eval (.Name x px) X.env:=by rfl) (hst:noStar e=true:=by rfl) (hline:(ap.endLine==cp.line)=true:=by rfl) :
  SE X (.Call (.Attribute (.Name x px) "index" ap) [e] [] cp) (v9 (DO ws) f):=by
 obtain⟨a,its,n,sl,hm,hk,hv⟩:=hc
 have hs:=aE [] X.env hst
 refine(qy (T:="tuple") PySem.F.plainAttrs_tuple PySem.F.slot_tuple_index PySem.F.type_tuple_index p_ (jH (v:=.ref a) hg hm rfl hd) (ac he af hst).1 hbase (by rw[hs];rfl) hline hs rfl).imp fun σ H Q ⟨ρ,d,er,e,q⟩=>?_
 obtain⟨y,e1,e⟩:=i9 e
 cases y with
 | str z =>
  obtain⟨j,e2,e3⟩:=rm e
  subst e3
  refine⟨.inr (.inl ⟨rfl,_,hk,rfl,rfl⟩),ρ,[.str z],er,by show(f ρ).bind _=_;rw[e1];rfl,fun vs H2 s2 r2=>?_⟩
  obtain⟨v,r',rfl,h1,h2⟩:=r2
  cases (show v=_ from h1)
  cases (show r'=[] from h2)
  exact⟨a,its,n,sl,ws,z,j,rfl,rfl,hk,hv,e2,q _ H2 s2 rfl⟩
 | _=>cases e
end
section
variable{X:Cx}
def L6:V->List V->Hp->VK->Prop:=fun x vs H Q=>∃z w,x=.str z/\vs=[]/\B5 z=some w/\Q (.str w) H
theorem EN{z w:Str}(h:B5 z=some w):Builtin.Str.tooLong (placed z fun _ c=>Unicode.upperOf c).size=false/\(⟨placed z fun _ c=>Unicode.upperOf c⟩:Str)=w:=by
 unfold B5 at h
 split at h
 ·rename_i e;cases h;subst e;exact⟨by decide +kernel,by decide +kernel⟩
 ·split at h
  ·rename_i e;cases h;subst e;exact⟨by decide +kernel,by decide +kernel⟩
  ·split at h
   ·rename_i e;cases h;subst e;exact⟨by decide +kernel,by decide +kernel⟩
   ·cases h
theorem qA:FC X "str.upper" L6:=by
 intro pins s σ H x vs v us Q I rx rv h
 obtain⟨z,w,rfl,rfl,hz,q⟩:=h
 obtain⟨t,rfl⟩:=rx
 cases rv
 obtain⟨f1,f2⟩:=EN hz
 exact call_gives F.slot_str_upper (typeIs_str s z t) F.entry_str_upper (F.args_str_upper_1 _) (gives_str_upper z t f1) ⟨Nat.le_of_not_lt (of_decide_eq_false f1),.str w,H,I.tok _,⟨_,by rw[f2]⟩,q⟩
theorem pI{a:MJ}{f:R->OD}{ap cp:Pos}(ha:SE X a f)(hbase:attributeBase a "upper" X.env (eval a X.env)=eval a X.env:=by rfl)(hline:(ap.endLine==cp.line)=true:=by rfl) :
  SE X (.Call (.Attribute a "upper" ap) [] [] cp) (v9 JU f):=(qb (T:="str") PySem.F.plainAttrs_str PySem.F.slot_str_upper PySem.F.type_str_upper qA ha hbase hline).imp fun σ H Q ⟨ρ,d,er,e,q⟩=>by
 obtain⟨x,e1,e⟩:=i9 e
 cases x with
 | str z =>
  obtain⟨w,e2,e3⟩:=rm e
  subst e3
  exact⟨ρ,_,er,e1,fun v H1 s1 r1=>by cases (show v=_ from r1);exact⟨rfl,z,w,rfl,rfl,e2,q _ H1 s1 rfl⟩⟩
 | _=>cases e
end
section
variable{X:Cx}{i k:Nat}{fa:Ml}{e a:MJ}{es:List MJ}{pos p:Pos}{f:R->OD}{F:R->Me LD}{G:LD->OD}
def KB(i:Nat)(fa:Ml)(σ:L2.St):Prop:=σ[i]?=some (some (.ref fa))
def J2(X:Cx)(i:Nat)(fa:Ml)(e:MJ)(f:R->OD):Prop:=PE X e (fun σ H Q=>KB i fa σ/\tD X.K f σ H Q)
def JV(X:Cx)(i:Nat)(fa:Ml)(es:List MJ)(F:R->Me LD):Prop:=PA X es (fun σ H Q=>KB i fa σ/\HU X.K F σ H Q)/\(∀ ρ ds,F ρ=some ds->ds.length=es.length)/\es.all noStar=true
def Lu(X:Cx)(i:Nat)(fa:Ml)(st:ML)(g:R->Me Out):Prop:=PS X st (fun E σ H=>KB i fa σ/\Gr X.K g E σ H)
def I_(P:Mv)(w:MH)(K:Mj)(mg:Str->Me Mg)(base:MI)(k:Nat)(fa:Ml)(G:LD->OD):Prop:=∃fd ps,l7 P w K mg base q8 k fa fd ps (rL K G)/\W.keepIn K (.ref fa)=true/\Binds K fd ps []
theorem sF{P:Mv}{w:MH}{K:Mj}{mg:Str->Me Mg}{base:MI}{x:Str}{ps:List Str}(C:n6 P w K mg base k x ps G)(h:mg x=some (.ref fa)):I_ P w K mg base k fa G:=by
 obtain⟨f,fd,a,m,kp,bd⟩:=C.ex
 rw[h] at m
 cases m
 exact⟨fd,ps,a,kp,bd⟩
theorem HG(h:SA X es F):JV X i fa es F:=⟨h.1.imp fun _ _ _ q=>q.2,h.2⟩
theorem Ej(ha:J2 X i fa e f)(hr:JV X i fa es F)(hs:noStar e=true:=by rfl):JV X i fa (e::es) (i4 f F):=⟨(lO ha hr.1 (aE es X.env hs)).imp fun σ H Q ⟨x,ρ,ds,er,e,q⟩=>by
 obtain⟨d,e1,e⟩:=i9 e
 obtain⟨y,e2,e⟩:=rm e
 subst e
 exact⟨x,ρ,d,er,e1,fun v H1 s1 r1=>⟨x,ρ,y,er.mono s1,e2,fun vs H2 s2 r2=>q _ H2 (s1.trans s2) (k9.cons (r1.mono s2) r2)⟩⟩,fun ρ ds e=>by
 obtain⟨d,e1,e⟩:=i9 e
 obtain⟨y,e2,e⟩:=rm e
 subst e
 simp[hr.2.1 ρ y e2],by rw[Ng,hs,hr.2.2];rfl⟩
theorem Em{x:Str}{ps:List Str}(C:n6 X.prog X.w X.K X.mg X.base k x ps G)(hr:ri k X.A)(ha:JV X i fa (e::es) F)(hg:Gl X x:=by rfl)
  (hdb:(x==("__debug__" : Str))=false:=by decide):J2 X i fa (.Call (.Name x p) (e::es) [] pos) (i8 G F):=by
 have hst:=ha.2.2
 rw[Ng,Mp] at hst
 have he:=aE es X.env hst.1
 have hpl:=cu (pos:=pos) (env:=X.env) hst.2
 obtain⟨f,fd,a,m,kp,bd⟩:=C.ex
 refine(jO a hr hg m kp bd .nil wZ ha.1 hdb he hpl).imp fun σ H Q ⟨x,ρ,d,er,e,q⟩=>?_
 obtain⟨ds,e1,e⟩:=i9 e
 exact⟨x,ρ,ds,er,e1,fun vs H1 s1 r1=>⟨ds,d,by rw[M5];exact r1,e,fun v H2 s2 r2=>q v H2 (s1.trans s2) r2⟩⟩
theorem C5{x:Str}(hF:I_ X.prog X.w X.K X.mg X.base k fa G)(hr:ri k X.A)(ha:SA X (e::es) F)(hN:X.N[i]?=some x:=by rfl)(hv:BS X.env.scope x:=by first | exact Or.inl rfl | exact Or.inr (Or.inl rfl) | exact Or.inr (Or.inr rfl))
  (hd:(x==("__debug__" : Str))=false:=by decide) (hcd:(x==("__classdict__" : Str))=false:=by decide):J2 X i fa (.Call (.Name x p) (e::es) [] pos) (i8 G F):=by
 have hst:=ha.2.2
 rw[Ng,Mp] at hst
 have he:=aE es X.env hst.1
 have hpl:=cu (pos:=pos) (env:=X.env) hst.2
 obtain⟨fd,ps,a,kp,bd⟩:=hF
 intro pins s σ H Q I h
 obtain⟨x1,ρ,d,er,e,q⟩:=h
 obtain⟨ds,e1,e⟩:=i9 e
 refine Nw (qW (li (pos:=p) hN hv hd hcd pins s σ H (fun v H1=>v=.ref fa/\H1=H) I ⟨.ref fa,x1,rfl,rfl⟩) fun u s1 ⟨v,H1,I1,rv,ev,eH⟩=>?_)
 subst ev eH
 cases (show u=_ from rv)
 refine W.callWith_K (h₀:=X.base) I1.ok.mod.kin kp (qW (ha.1 pos pins s1 σ H1 (fun vs H2=>l0 H1 H2/\k9 X.K H2 ds vs) I1 ⟨ρ,ds,er,e1,fun vs H2 s2 r2=>⟨s2,r2⟩⟩) fun us s2 ⟨vs,H2,I2,r,s12,rp⟩=>⟨I2.kIn,?_⟩) he hpl
 exact zF a hr bd .nil wZ I2 r ⟨ds,d,by rw[M5];exact rp,e,fun v H3 s3 r3=>q v H3 (s12.trans s3) r3⟩
theorem Hz(ha:J2 X i fa a f):Lu X i fa (.Return (some a) pos) (m7 f):=(lB ha).imp fun E σ H ⟨x,ρ,τ,o,er,e,q⟩=>by
 obtain⟨d,e1,e⟩:=rm e
 subst e
 exact⟨x,ρ,d,er.1,e1,fun v H1 s1 r1=>q H1 s1 v r1⟩
inductive Tab (P:Mv) (w:MH) (K:Mj) (mg:Str->Me Mg) (base:MI) (k:Nat):List (Str×(LD->OD))->List (Str×Mg)->Prop
 | nil:Tab P w K mg base k [] []
 | cons {z:Str} {G:LD->OD} {fa:Ml} {t:List (Str×(LD->OD))} {vs:List (Str×Mg)}:I_ P w K mg base k fa G->Tab P w K mg base k t vs->Tab P w K mg base k ((z,G)::t) ((z,.ref fa)::vs)
theorem Tab.get{P:Mv}{w:MH}{K:Mj}{mg:Str->Me Mg}{base:MI}{t:List (Str×(LD->OD))}{vs:List (Str×Mg)}(h:Tab P w K mg base k t vs){z:Str}(e:t.lookup z=some G):∃fa,valueAt vs z=some (.ref fa)/\I_ P w K mg base k fa G:=by
 induction h with
 | nil=>cases e
 | @cons y G' fa t vs h1 h2 ih =>
  unfold valueAt
  rw[List.find?_cons]
  by_cases hz:y=z
  ·subst hz
   rw[List.lookup_cons,beq_self_eq_true] at e
   cases e
   simp
   exact h1
  ·rw[List.lookup_cons,M8.mpr (fun q=>hz q.symm)] at e
   obtain⟨fb,q1,q2⟩:=ih e
   refine⟨fb,?_,q2⟩
   unfold valueAt at q1
   simp[hz]
   simpa using q1
def Eb(P:Mv)(w:MH)(K:Mj)(mg:Str->Me Mg)(base:MI)(k:Nat)(T:Str)(t:List (Str×(LD->OD))):Prop:=∃a vs,mg T=some (.ref a)/\(∀h:MI,K.In h->h.DictOf (strKind P w) a vs)/\Tab P w K mg base k t vs
def entries(w:MH):List (Str×Tok×Mg)->List DictEntry
 | []=>[]
 | (z,t,v)::r=>{hash:=PyData.keyHash w.params z,key:=.str z t,val:=v}::entries w r
theorem nV{P:Mv}{w:MH}{K:Mj}{a:Ml}{n:Nat}(l:List (Str×Tok×Mg))(hk:K.lookup a=some ⟨.type "dict",none,.dict (entries w l).toArray n,#[]⟩)(hn:(l.map (·.1)).Nodup)(h:MI)(X:K.In h) :
  h.DictOf (strKind P w) a (l.map fun p=>(p.1,p.2.2)):=by
 refine⟨_,_,_,X _ _ hk,⟨rfl,rfl,rfl⟩,rfl,?_,?_,?_⟩
 ·intro e he
  have he':e∈entries w l:=by simpa using he
  clear he hk hn
  induction l with
  | nil=>cases he'
  | cons p l ih =>
   obtain⟨z,t,v⟩:=p
   rcases Mu.mp he' with rfl | h2
   ·exact⟨z,strKind_is P w z t,rfl⟩
   ·exact ih h2
 ·show Pairs _ (entries w l) _
  clear hk hn
  induction l with
  | nil=>exact .nil
  | cons p l ih =>
   obtain⟨z,t,v⟩:=p
   exact .cons (strKind_is P w z t) rfl ih
 ·rw[List.map_map]
  exact hn
theorem qV.hide{K:Mj}{H:Hp}{ρ:R}{σ:L2.St}(e:qV K H ρ σ)(i:Nat)(v:Me V):qV K H (ρ.set i none) (σ.set i v):=by
 refine⟨by simpa using e.1,fun j c h=>?_⟩
 by_cases hj:i=j
 ·subst hj
  by_cases hi:i<ρ.length
  ·rw[Na hi] at h
   cases h
  ·rw[Np (by simpa using hi)] at h
   cases h
 ·rw[MW hj] at h ⊢
  exact e.2 j c h
theorem qx{T x:Str}{pt px ps:Pos}{st:ML}{t:List (Str×(LD->OD))}{g:(LD->OD)->R->Me Out}(i:Nat)(hN:X.N.Nodup)(hT:Eb X.prog X.w X.K X.mg X.base k T t)(he:SE X e f)(hb:∀fa G,I_ X.prog X.w X.K X.mg X.base k fa G->Lu X i fa st (g G))
  (hg:Gl X T:=by rfl) (hi:X.N[i]?=some x:=by rfl) (hx:Loc X.env.scope x:=by first | exact Or.inl rfl | exact Or.inr rfl) (hs:zy e:=by intro _ _;rfl)
  (hw:swapsWith (.Subscript (.Name T pt) e ps) (some (.Name x px)) pos.line X.env=pure false:=by rfl) (hf:X.fn x=true\/X.env.scope.names.lookup x=some .local:=by first | exact .inl rfl | exact .inr rfl) (hdb:(T==("__debug__" : Str))=false:=by decide) :
  SS X [.Assign [.Name x px] (.Subscript (.Name T pt) e ps) pos,st] (JN i t f g):=by
 obtain⟨a,vs,hm,hd,ht⟩:=hT
 have hix:IxR X (fun x y H Q=>∃z fa,x=.ref a/\y=.str z/\valueAt vs z=some (.ref fa)/\Q (.ref fa) H):=by
  intro value slice pins s σ H x y v u Q I rx ry h hs
  obtain⟨z,fa,rfl,rfl,hv,q⟩:=h
  cases rx
  obtain⟨tk,rfl⟩:=ry
  have hdd:=hd s.heap I.kIn
  exact tail_any hdd.mapOf.typeIs PySem.F.slot_dict_getitem.lookup (wpAny_getItem_of (strKind_is X.prog X.w z tk) hdd.mapOf hv ⟨.ref fa,H,I.tok _,rfl,q⟩) hs
 have hsub:=pH (pos:=ps) hix (jH (pos:=pt) (v:=.ref a) hg hm rfl hdb) he hs
 intro pins s σ H E I h
 obtain⟨ρ,τ,o,er,ef,q⟩:=h
 obtain⟨d,e1,ef⟩:=i9 ef
 cases d with
 | str z =>
  obtain⟨G,e2,e3⟩:=i9 ef
  obtain⟨fa,hv,hF⟩:=ht.get e2
  have hl:i<σ.length:=by
   rw[I.len]
   exact(MG.mp hi).1
  split at e3
  case isFalse=>cases e3
  case isTrue hlt =>
  refine d_ (kZ hN hi hx hsub hw hf) (eP (hb fa G hF)) pins s σ H E I ?_
  refine⟨ρ,_,er.1,e1,fun v H1 s1 r1=>⟨z,fa,rfl,r1,hv,?_⟩⟩
  refine⟨Na hl,ρ.set i none,τ,o,⟨(er.1.mono s1).hide i _,?_⟩,e3,fun H2 s2=>q H2 (s1.trans s2)⟩
  rw[MR,List.drop_set_of_lt hlt]
  exact er.2
 | _=>cases ef
end
section
variable{X:Cx}
end
end HW
namespace HW
open PySem
noncomputable def t4(a b c:Int):Nat:=if a<b then ((b - a - 1) / c+1).toNat else 0
def wY(a b c:Int):LD:=(List.range (t4 a b c)).map fun (k:Nat)=>D.int (a+(k:Int)*c)
@[simp] def y8 (f g h:R->OD):R->Me LD:=fun ρ=>(f ρ).bind fun x=>(g ρ).bind fun y=>(h ρ).bind fun z=>(nI x).bind fun i=>(nI y).bind fun j=>(nI z).bind fun c =>
 if -(2 ^ 60)<=i/\i<2 ^ 60 /\ -(2 ^ 60)<=j/\j<2 ^ 60/\0<c/\c<1073741824 then some (wY i j c) else none
def l8?:D->Me LD
 | .tup xs=>some xs
 | .lst xs=>some xs
 | .str x=>if x.cps.all (·<128) then some (chars x) else none
 | _=>none
def Dq(xs ys:LD):LD:=List.zipWith (fun x y=>D.tup [x,y]) xs ys
theorem Ak(xs ys:LD):(Dq xs ys).length=min xs.length ys.length:=by simp[Dq]
theorem DL{xs ys:LD}{i:Nat}{d:D}(e:(Dq xs ys)[i]?=some d):∃x y,xs[i]?=some x/\ys[i]?=some y/\d=.tup [x,y]:=by
 unfold Dq at e
 rw[List.getElem?_zipWith] at e
 cases h1:xs[i]? with
 | none=>rw[h1] at e;cases e
 | some x=>cases h2:ys[i]? with
  | none=>rw[h1,h2] at e;cases e
  | some y=>rw[h1,h2] at e;exact⟨x,y,rfl,rfl,(ME e).symm⟩
end HW
namespace HW
open PySem PySem.Spec PyProof.Rows L2
section
variable{X:Cx}{a:MJ}{f:R->OD}{pos p2:Pos}
end
theorem Mc{us:List Mg}(h:us.length=1):∃x0,us=[x0]:=by
 match us,h with
 | [x0],_=>exact⟨x0,rfl⟩
theorem ln2{us:List Mg}(h:us.length=2):∃x0 x1,us=[x0,x1]:=by
 match us,h with
 | [x0,x1],_=>exact⟨x0,x1,rfl⟩
theorem Mb{us:List Mg}(h:us.length=3):∃x0 x1 x2,us=[x0,x1,x2]:=by
 match us,h with
 | [x0,x1,x2],_=>exact⟨x0,x1,x2,rfl⟩
section
variable{X:Cx}
end
section
variable{prog:Mv}{w:MH}{A:MQ}{E:Mg->Mi->Prop}{s:Mi}
end
section
variable{X:Cx}
end
section
variable{X:Cx}
end
theorem Hu{a b c:Int}(ha : -(2 ^ 60)<=a)(ha':a<2 ^ 60)(hb : -(2 ^ 60)<=b)(hb':b<2 ^ 60)(hc:0<c)(hc':c<1073741824):Builtin.Range.small a b c=true:=by
 have hd:0<=(b - a - 1) / c\/b - a - 1<0:=by
  by_cases h:b - a - 1<0
  ·exact .inr h
  ·exact .inl (Int.ediv_nonneg (by omega) (by omega))
 have hd2:a<b->(b - a - 1) / c<=b - a - 1:=fun h=>Int.ediv_le_self _ (by omega)
 unfold Builtin.Range.small Builtin.Range.rangeSize
 simp only[Builtin.Range.rangeFitsLong,Mp,Bool.or_eq_true,decide_eq_true_eq,NC,gt_iff_lt,hc,if_true]
 split<;>omega
section
variable{X:Cx}
theorem CJ{a b c:Int}(hc:0<c):((t4 a b c:Nat):Int)=Builtin.Range.rangeSize a b c:=by
 unfold t4 Builtin.Range.rangeSize
 rw[Mo (show c > 0 from hc)]
 split
 ·rename_i h
  have:0<=(b - a - 1) / c:=Int.ediv_nonneg (by omega) (by omega)
  omega
 ·rfl
end
section
variable{X:Cx}{pins:List (Ml×Obj)}{σ:L2.St}{H:Hp}{s:Mi}{k:Nat}{y:Str}
def GX(X:Cx)(k:Nat)(y:Str):Cx:={X with N:=X.N.set k y}
theorem wk{α:Type}{l:List (Me α)}{i k:Nat}{v:α}(h:(l.set k none)[i]?=some (some v)):i≠k/\l[i]?=some (some v):=by
 by_cases e:i=k
 ·subst e
  rw[List.getElem?_set_self'] at h
  cases z:l[i]? with
  | none=>rw[z] at h;cases h
  | some w=>rw[z] at h;cases h
 ·rw[MW (Ne.symm e)] at h
  exact⟨e,h⟩
theorem EV(I:L2.Inv X pins σ H s):L2.Inv (GX X k y) pins (σ.set k none) H s where
 ok:=⟨I.ok.mod,I.ok.kind,I.ok.glob,I.ok.blt,I.ok.above,I.ok.inj,I.ok.has,I.ok.cab,I.ok.hd,I.ok.frames,I.ok.stk,I.ok.exf,I.ok.bs,I.ok.bsz,I.ok.noex,I.ok.exfs,I.ok.funs,I.ok.frf⟩
 os:=I.os
 bare:=I.bare
 base:=I.base
 loc:=let ⟨m,hn,hl⟩:=I.loc;⟨m,hn,fun i x v e1 e2 e3=>by
  obtain⟨n,e4⟩:=wk e2
  have e5:(X.N.set k y)[i]?=some x:=e1
  rw[MW (Ne.symm n)] at e5
  exact hl i x v e5 e4 e3⟩
 cell:=I.cell
 free:=I.free
 freeC:=I.freeC
 pin:=I.pin
 hok:=I.hok
 len:=by show(σ.set k none).length=(X.N.set k y).length;rw[MR,MR];exact I.len
theorem vz(I:L2.Inv (GX X k y) pins σ H s):L2.Inv X pins (σ.set k none) H s where
 ok:=⟨I.ok.mod,I.ok.kind,I.ok.glob,I.ok.blt,I.ok.above,I.ok.inj,I.ok.has,I.ok.cab,I.ok.hd,I.ok.frames,I.ok.stk,I.ok.exf,I.ok.bs,I.ok.bsz,I.ok.noex,I.ok.exfs,I.ok.funs,I.ok.frf⟩
 os:=I.os
 bare:=I.bare
 base:=I.base
 loc:=let ⟨m,hn,hl⟩:=I.loc;⟨m,hn,fun i x v e1 e2 e3=>by
  obtain⟨n,e4⟩:=wk e2
  exact hl i x v (by show(X.N.set k y)[i]?=some x;rw[MW (Ne.symm n)];exact e1) e4 e3⟩
 cell:=I.cell
 free:=I.free
 freeC:=I.freeC
 pin:=I.pin
 hok:=I.hok
 len:=by have z:σ.length=(X.N.set k y).length:=I.len;rw[MR] at z;rw[MR];exact z
theorem kE{K:Mj}{ρ:R}{τ:L2.St}(e:qP K H ρ τ σ)(hk:k<ρ.length):qP K H (ρ.set k none) τ (σ.set k none):=by
 refine⟨⟨by rw[MR,MR];exact e.1.1,fun i d h=>?_⟩,?_⟩
 ·obtain⟨n,h2⟩:=wk h
  obtain⟨v,h3,h4⟩:=e.1.2 i d h2
  exact⟨v,by rw[MW (Ne.symm n)];exact h3,h4⟩
 ·rw[MR,List.drop_set_of_lt hk]
  exact e.2
end
end HW
namespace HW
open PySem
structure Ap (z TI TO i1 i2:Ml):Prop where
 a1:TI≠z
 a2:TO≠z
 a3:i1≠z
 a4:i2≠z
 a5:TI≠TO
 a6:TI≠i1
 a7:TI≠i2
 a8:TO≠i1
 a9:TO≠i2
 b1:i1≠i2
section
variable{prog:Mv}{w:MH}{A:MQ}{E:Mg->Mi->Prop}{g:_}{d:_}{os:_}
structure Nx (prog:Mv) (w:MH) (A:MQ) (mk:MI->Nat->Mi) (Good:MI->Nat->Prop) (it:Ml) (st st':MI->Prop) (P:Mg->Prop):Prop where
 stay:∀h h',st h->(∀o,h.get? it=some o->h'.get? it=some o)->st h'
 stay':∀h h',st' h->(∀o,h.get? it=some o->h'.get? it=some o)->st' h'
 run:∀h tk (Q:Mg->Mi->Prop) (E:Mg->Mi->Prop),Good h tk->st h->(∀u h' tk',P u->st' h'->Heap.SameBut it h h'->Q u (mk h' tk')) ->
  wpAny (model prog w) A (Builtin.SmallTypes.nextOf (.ref it)) Q E (mk h tk)
structure Ne (prog:Mv) (w:MH) (A:MQ) (mk:MI->Nat->Mi) (Good:MI->Nat->Prop) (it:Ml) (st:MI->Prop):Prop where
 stay:∀h h',st h->(∀o,h.get? it=some o->h'.get? it=some o)->st h'
 run:∀h tk (Q:Mg->Mi->Prop) (E:Mg->Mi->Prop),Good h tk->st h->(∀h' e,Heap.ExtBut it h h'->(∃o,h'.get? e=some o/\o.cls=.type "StopIteration")->E (.ref e) (mk h' tk)) ->
  wpAny (model prog w) A (Builtin.SmallTypes.nextOf (.ref it)) Q E (mk h tk)
def rF(s:Mi)(h:MI)(tk:Nat):Mi:={s with heap:=h,toks:=tk}
def Cl(Good:MI->Nat->Prop)(cs:List Ml):Prop:=∀c∈cs,∀h tk h' tk',Good h tk->(∀b o,b≠c->h.get? b=some o->h'.get? b=some o)->Good h' tk'
variable{Good:MI->Nat->Prop}{s:Mi}{z TI TO i1 i2:Ml}{a b:Mg}{st1 st1' st2 st2':MI->Prop}{P1 P2:Mg->Prop}
theorem nt {Q:Mg->Mi->Prop} (D:Ap z TI TO i1 i2) (hz:IsZip s.heap z TI TO .none) (hI:IsPair s.heap TI (.ref i1) (.ref i2)) (hO:IsPair s.heap TO a b)
    (g0:Good s.heap s.toks) (cl:Cl Good [z,TO,i1,i2]) (n1:Nx prog w A (rF s) Good i1 st1 st1' P1) (n2:Nx prog w A (rF s) Good i2 st2 st2' P2) (q1:st1 s.heap) (q2:st2 s.heap)
    (hQ:∀h5 tk u1 u2 h8,Good h5 tk->P1 u1->P2 u2->IsZip h5 z TI TO .ellipsis->IsPair h5 TI (.ref i1) (.ref i2)->IsPair h5 TO u1 u2->st1' h5->st2' h5->IsZip h8 z TI TO (rawInt h5.objs.size) ->
      (∀c o,c≠z->(h5.push {cls:=.type "tuple",data:=.seq #[u1,u2]}).get? c=some o->h8.get? c=some o)->Q (.ref h5.objs.size) (rF s h8 tk)) :
    wpAny (model prog w) A (Builtin.«zip.__next__» ⟨[.ref z],[]⟩) (fun fin s'=>∃v,fin=.done (.ret v)/\Q v s') E s:=by
  show wpAny _ _ (field (.ref z) 2 >>= _) _ _ _;refine Mf (wpAny_field hz rfl (x:=.bool false) rfl ?_)
  show wpAny _ _ (field (.ref z) 3 >>= _) _ _ _;refine Mf (wpAny_field hz rfl (x:=.ref TI) rfl ?_)
  refine Mf (wpAny_seqItems hI rfl ?_);show wpAny _ _ (Builtin.SmallTypes.ownedTupleIsFree (.ref z) >>= _) _ _ _
  refine Mf ?_;unfold Builtin.SmallTypes.ownedTupleIsFree
  refine Mf (wpAny_field hz rfl (x:=.none) rfl (Mm ?_));simp only[if_true]
  refine Mf (wpAny_rule ?_);refine Mf (wpAny_field hz rfl (x:=.ref TO) rfl ?_)
  refine Mf (wpAny_setField_rec hz (by simp) fun h1 hz1 s1=>?_)
  replace hz1:IsZip h1 z TI TO .ellipsis:=hz1
  have e1:∀b o,b≠z->s.heap.get? b=some o->h1.get? b=some o:=s1.extBut
  have g1:Good h1 s.toks:=cl z (by simp) _ _ _ _ g0 e1
  refine Mf ?_;simp only[List.zipIdx_cons,List.zipIdx_nil,List.forIn_cons,List.forIn_nil]
  refine Mf (Mf (wpAny_onRaise ?_));show wpAny _ _ (Builtin.SmallTypes.nextOf (.ref i1) >>= _) _ _ _
  refine Mf (n1.run h1 s.toks _ _ g1 (n1.stay _ _ q1 fun o=>e1 _ o D.a3) fun u1 h2 tk2 p1 t1 s2=>Mm ?_)
  have e2:∀b o,b≠i1->h1.get? b=some o->h2.get? b=some o:=s2.extBut
  have g2:Good h2 tk2:=cl i1 (by simp) _ _ _ _ g1 e2
  have O2:IsPair h2 TO a b:=e2 _ _ D.a8 (e1 _ _ D.a2 hO)
  refine Mf (wpAny_seqItems (s:=rF s h2 tk2) O2 rfl ?_)
  refine Mf (wpAny_updateSeq_pair (s:=rF s h2 tk2) O2 fun h3 O3 s3=>?_)
  replace O3:IsPair h3 TO u1 b:=O3
  have e3:∀b o,b≠TO->h2.get? b=some o->h3.get? b=some o:=s3.extBut
  have g3:Good h3 tk2:=cl TO (by simp) _ _ _ _ g2 e3
  refine Mf (wpAny_letGo (Mm ?_));refine Mf (Mf (wpAny_onRaise ?_))
  show wpAny _ _ (Builtin.SmallTypes.nextOf (.ref i2) >>= _) _ _ (rF s h3 tk2)
  refine Mf (n2.run h3 tk2 _ _ g3 (n2.stay _ _ q2 fun o q=>e3 _ o D.a9.symm (e2 _ o D.b1.symm (e1 _ o D.a4 q))) fun u2 h4 tk4 p2 t2 s4=>Mm ?_)
  have e4:∀b o,b≠i2->h3.get? b=some o->h4.get? b=some o:=s4.extBut
  have g4:Good h4 tk4:=cl i2 (by simp) _ _ _ _ g3 e4
  have O4:IsPair h4 TO u1 b:=e4 _ _ D.a9 O3
  refine Mf (wpAny_seqItems (s:=rF s h4 tk4) O4 rfl ?_)
  refine Mf (wpAny_updateSeq_pair (s:=rF s h4 tk4) O4 fun h5 O5 s5=>?_)
  replace O5:IsPair h5 TO u1 u2:=O5
  have e5:∀b o,b≠TO->h4.get? b=some o->h5.get? b=some o:=s5.extBut
  have g5:Good h5 tk4:=cl TO (by simp) _ _ _ _ g4 e5
  refine Mf (wpAny_letGo (Mm (Mm ?_)));refine Mf (wpAny_seqItems (s:=rF s h5 tk4) O5 rfl ?_)
  refine Mf (wpAny_newTuple (s:=rF s h5 tk4) ?_)
  have z5:IsZip h5 z TI TO .ellipsis:=e5 _ _ D.a2.symm (e4 _ _ D.a4.symm (e3 _ _ D.a2.symm (e2 _ _ D.a3.symm hz1)))
  have I5:IsPair h5 TI (.ref i1) (.ref i2):=e5 _ _ D.a5 (e4 _ _ D.a7 (e3 _ _ D.a5 (e2 _ _ D.a6 (e1 _ _ D.a1 hI))))
  show wpAny _ _ (Builtin.SmallTypes.ownedTupleHandOut (.ref z) (.ref h5.objs.size) >>= _) _ _ _
  refine Mf ?_;unfold Builtin.SmallTypes.ownedTupleHandOut
  have z6:IsZip (h5.push {cls:=.type "tuple",data:=.seq #[u1,u2]}) z TI TO .ellipsis:=Mh _ z5
  refine Mf (wpAny_setField_rec (s:=rF s (h5.push {cls:=.type "tuple",data:=.seq #[u1,u2]}) tk4) z6 (by simp) fun h7 z7 s7=>?_)
  replace z7:IsZip h7 z TI TO (rawInt h5.objs.size):=z7
  refine wpAny_setField_rec (s:=rF s h7 tk4) z7 (by simp) fun h8 z8 s8=>?_
  replace z8:IsZip h8 z TI TO (rawInt h5.objs.size):=z8
  exact Mm ⟨_,rfl,hQ h5 tk4 u1 u2 h8 g5 p1 p2 z5 I5 O5 (n1.stay' _ _ t1 fun o q=>e5 _ o D.a8.symm (e4 _ o D.b1 (e3 _ o D.a8.symm q))) (n2.stay' _ _ t2 fun o q=>e5 _ o D.a9.symm q) z8
    fun c o n q=>s8.extBut _ _ n (s7.extBut _ _ n q)⟩
theorem nR{Q:Fin->Mi->Prop}(D:Ap z TI TO i1 i2)(hz:IsZip s.heap z TI TO .none)(hI:IsPair s.heap TI (.ref i1) (.ref i2))(hO:IsPair s.heap TO a b)
  (g0:Good s.heap s.toks) (cl:Cl Good [z,TO,i1,i2]) (q1:st1 s.heap) (q2:st2 s.heap)
  (n:Ne prog w A (rF s) Good i1 st1\/(Nx prog w A (rF s) Good i1 st1 st1' P1/\Ne prog w A (rF s) Good i2 st2))
  (hE:∀h' tk e,Good h' tk->(∃o,h'.get? e=some o/\o.cls=.type "StopIteration")->E (.ref e) (rF s h' tk)) :
  wpAny (model prog w) A (Builtin.«zip.__next__» ⟨[.ref z],[]⟩) Q E s:=by
 show wpAny _ _ (field (.ref z) 2 >>= _) _ _ _;refine Mf (wpAny_field hz rfl (x:=.bool false) rfl ?_)
 show wpAny _ _ (field (.ref z) 3 >>= _) _ _ _;refine Mf (wpAny_field hz rfl (x:=.ref TI) rfl ?_)
 refine Mf (wpAny_seqItems hI rfl ?_);show wpAny _ _ (Builtin.SmallTypes.ownedTupleIsFree (.ref z) >>= _) _ _ _
 refine Mf ?_;unfold Builtin.SmallTypes.ownedTupleIsFree
 refine Mf (wpAny_field hz rfl (x:=.none) rfl (Mm ?_));simp only[if_true]
 refine Mf (wpAny_rule ?_);refine Mf (wpAny_field hz rfl (x:=.ref TO) rfl ?_)
 refine Mf (wpAny_setField_rec hz (by simp) fun h1 hz1 s1=>?_)
 replace hz1:IsZip h1 z TI TO .ellipsis:=hz1
 have e1:∀b o,b≠z->s.heap.get? b=some o->h1.get? b=some o:=s1.extBut
 have g1:Good h1 s.toks:=cl z (by simp) _ _ _ _ g0 e1
 refine Mf ?_;simp only[List.zipIdx_cons,List.zipIdx_nil,List.forIn_cons,List.forIn_nil]
 refine Mf (Mf (wpAny_onRaise ?_));show wpAny _ _ (Builtin.SmallTypes.nextOf (.ref i1) >>= _) _ _ _
 rcases n with n | ⟨n1,n2⟩
 ·refine Mf (n.run h1 s.toks _ _ g1 (n.stay _ _ q1 fun o=>e1 _ o D.a3) fun h2 e s2 he=>?_)
  obtain⟨oe,q,ce⟩:=he
  have z2:IsZip h2 z TI TO .ellipsis:=s2 _ _ D.a3.symm hz1
  have ne:e≠z:=fun x=>by rw[x,z2] at q;cases q;simp at ce
  refine wpAny_setField_rec (s:=rF s h2 s.toks) z2 (by simp) fun h3 _ s3=>hE h3 s.toks e ?_ ⟨oe,s3.extBut _ _ ne q,ce⟩
  exact cl z (by simp) _ _ _ _ (cl i1 (by simp) _ _ _ s.toks g1 s2) s3.extBut
 ·refine Mf (n1.run h1 s.toks _ _ g1 (n1.stay _ _ q1 fun o=>e1 _ o D.a3) fun u1 h2 tk2 p1 t1 s2=>Mm ?_)
  have e2:∀b o,b≠i1->h1.get? b=some o->h2.get? b=some o:=s2.extBut
  have g2:Good h2 tk2:=cl i1 (by simp) _ _ _ _ g1 e2
  have O2:IsPair h2 TO a b:=e2 _ _ D.a8 (e1 _ _ D.a2 hO)
  refine Mf (wpAny_seqItems (s:=rF s h2 tk2) O2 rfl ?_)
  refine Mf (wpAny_updateSeq_pair (s:=rF s h2 tk2) O2 fun h3 O3 s3=>?_)
  have e3:∀b o,b≠TO->h2.get? b=some o->h3.get? b=some o:=s3.extBut
  have g3:Good h3 tk2:=cl TO (by simp) _ _ _ _ g2 e3
  refine Mf (wpAny_letGo (Mm ?_));refine Mf (Mf (wpAny_onRaise ?_))
  show wpAny _ _ (Builtin.SmallTypes.nextOf (.ref i2) >>= _) _ _ (rF s h3 tk2)
  refine Mf (n2.run h3 tk2 _ _ g3 (n2.stay _ _ q2 fun o q=>e3 _ o D.a9.symm (e2 _ o D.b1.symm (e1 _ o D.a4 q))) fun h4 e s4 he=>?_)
  obtain⟨oe,q,ce⟩:=he
  have z4:IsZip h4 z TI TO .ellipsis:=s4 _ _ D.a4.symm (e3 _ _ D.a2.symm (e2 _ _ D.a3.symm hz1))
  have ne:e≠z:=fun x=>by rw[x,z4] at q;cases q;simp at ce
  refine wpAny_setField_rec (s:=rF s h4 tk2) z4 (by simp) fun h5 _ s5=>hE h5 tk2 e ?_ ⟨oe,s5.extBut _ _ ne q,ce⟩
  exact cl z (by simp) _ _ _ _ (cl i2 (by simp) _ _ _ tk2 g3 s4) s5.extBut
theorem lx {Q:Mg->Mi->Prop} (D:Ap z TI TO i1 i2) (hz:IsZip s.heap z TI TO .none) (hI:IsPair s.heap TI (.ref i1) (.ref i2)) (hO:IsPair s.heap TO a b)
    (g0:Good s.heap s.toks) (cl:Cl Good [z,TO,i1,i2]) (n1:Nx prog w A.in1 (rF s) Good i1 st1 st1' P1) (n2:Nx prog w A.in1 (rF s) Good i2 st2 st2' P2) (q1:st1 s.heap) (q2:st2 s.heap)
    (hQ:∀h5 tk u1 u2 h8,Good h5 tk->P1 u1->P2 u2->IsZip h5 z TI TO .ellipsis->IsPair h5 TI (.ref i1) (.ref i2)->IsPair h5 TO u1 u2->st1' h5->st2' h5->IsZip h8 z TI TO (rawInt h5.objs.size) ->
      (∀c o,c≠z->(h5.push {cls:=.type "tuple",data:=.seq #[u1,u2]}).get? c=some o->h8.get? c=some o)->Q (.ref h5.objs.size) (rF s h8 tk)) :
    wpAny (model prog w) A (pyNext (.ref z)) (fun r s'=>∃v,r=some v/\Q v s') E s:=by
  have hT:s.TypeIs (.ref z) "zip":=⟨_,hz,rfl⟩
  unfold pyNext
  exact Mf (wpAny_attempt (wpAny_callSpecial?_slot (name:=oS "__next__") hT F.slot_zip_next (wpAny_call_entry F.slot_zip_next hT F.entry_zip_next
      (nt (Q:=fun v s'=>_) D hz hI hO g0 cl n1 n2 q1 q2 fun h5 tk u1 u2 h8 c1 c2 c3 c4 c5 c6 c7 c8 c9 c10=>Mm ⟨_,rfl,hQ h5 tk u1 u2 h8 c1 c2 c3 c4 c5 c6 c7 c8 c9 c10⟩) (F.args_zip_next_1 _))))
theorem mK{Q:Me Mg->Mi->Prop}(D:Ap z TI TO i1 i2)(hz:IsZip s.heap z TI TO .none)(hI:IsPair s.heap TI (.ref i1) (.ref i2))(hO:IsPair s.heap TO a b)
  (g0:Good s.heap s.toks) (cl:Cl Good [z,TO,i1,i2]) (q1:st1 s.heap) (q2:st2 s.heap)
  (n:Ne prog w A.in1 (rF s) Good i1 st1\/(Nx prog w A.in1 (rF s) Good i1 st1 st1' P1/\Ne prog w A.in1 (rF s) Good i2 st2))
  (hQ:∀h' tk,Good h' tk->Q none (rF s h' tk)):wpAny (model prog w) A (pyNext (.ref z)) Q E s:=by
 have hT:s.TypeIs (.ref z) "zip":=⟨_,hz,rfl⟩
 unfold pyNext
 refine Mf (wpAny_attempt (wpAny_callSpecial?_slot (name:=oS "__next__") hT F.slot_zip_next (wpAny_call_entry F.slot_zip_next hT F.entry_zip_next
  (nR D hz hI hO g0 cl q1 q2 n fun h' tk e gg he=>?_) (F.args_zip_next_1 _))))
 obtain⟨o,ho,hc⟩:=he
 exact Mf (wpAny_isInstance (s:=rF s h' tk) (T:="StopIteration") (b:=true) ⟨o,ho,hc⟩ isSubtype_stop (Mm (hQ _ _ gg)))
theorem ft{it l:Ml}{i:Nat}{items}{x:Mg}{Q:Mg->Mi->Prop}(hit:s.heap.IsTupleIter it l i)(hl:s.heap.IsTuple l items)(hx:items[i]?=some x)
  (hQ:∀h',h'.IsTupleIter it l (i+1)->Heap.SameBut it s.heap h'->Q x {s with heap:=h' }):wpAny (model prog w) A (Builtin.SmallTypes.nextOf (.ref it)) Q E s:=by
 obtain⟨o,ho,hc,hd⟩:=id hit
 obtain⟨ol,hol,_,nl,hdl⟩:=hl
 unfold Builtin.SmallTypes.nextOf
 refine Mf (wpAny_callSpecial?_slot (name:=oS "__next__") hit.typeIs F.slot_tuple_iterator_next (wpAny_call_entry F.slot_tuple_iterator_next hit.typeIs F.entry_tuple_iterator_next ?_ (F.args_tuple_iterator_next_1 _)))
 show wpAny _ _ (field (.ref it) 0 >>= _) _ _ s;refine Mf (wpAny_field ho hd (x:=.ref l) rfl ?_)
 show wpAny _ _ (if (Value.ref l==Value.none)=true then _ else _) _ _ s;rw[Mx (show ¬ ((Value.ref l==Value.none)=true) from Mt)]
 show wpAny _ _ (field (.ref it) 1 >>= _) _ _ s;refine Mf (wpAny_field ho hd (x:=.int i 0) rfl ?_)
 show wpAny _ _ (seqItems? (.ref l) >>= _) _ _ s;refine Mf (wpAny_seqItems hol hdl ?_)
 simp only[Int.toNat_natCast,hx]
 refine Mf (wpAny_setField ho hd (by simp) (Mm ⟨x,rfl,Mm (hQ _ ⟨_,Nq _ ho (Obj.isFreed_of_fields (Obj.data_mapFields hd _)),(Obj.cls_mapFields ..).trans hc,?_⟩ (Heap.SameBut.update ..))⟩))
 rw[Obj.data_mapFields hd];simp[rawInt]
theorem fU{it l:Ml}{i:Nat}{items}{Q:Mg->Mi->Prop}(hh:A.handled=none)(hit:s.heap.IsTupleIter it l i)(hl:s.heap.IsTuple l items)(hx:items[i]?=none)
  (hE:∀h' e,Heap.ExtBut it s.heap h'->(∃o,h'.get? e=some o/\o.cls=.type "StopIteration")->E (.ref e) {s with heap:=h' }):wpAny (model prog w) A (Builtin.SmallTypes.nextOf (.ref it)) Q E s:=by
 obtain⟨o,ho,hc,hd⟩:=id hit
 obtain⟨ol,hol,_,nl,hdl⟩:=hl
 unfold Builtin.SmallTypes.nextOf
 refine Mf (wpAny_callSpecial?_slot (name:=oS "__next__") hit.typeIs F.slot_tuple_iterator_next (wpAny_call_entry F.slot_tuple_iterator_next hit.typeIs F.entry_tuple_iterator_next ?_ (F.args_tuple_iterator_next_1 _)))
 show wpAny _ _ (field (.ref it) 0 >>= _) _ _ s;refine Mf (wpAny_field ho hd (x:=.ref l) rfl ?_)
 show wpAny _ _ (if (Value.ref l==Value.none)=true then _ else _) _ _ s;rw[Mx (show ¬ ((Value.ref l==Value.none)=true) from Mt)]
 show wpAny _ _ (field (.ref it) 1 >>= _) _ _ s;refine Mf (wpAny_field ho hd (x:=.int i 0) rfl ?_)
 show wpAny _ _ (seqItems? (.ref l) >>= _) _ _ s;refine Mf (wpAny_seqItems hol hdl ?_)
 simp only[Int.toNat_natCast,hx]
 refine Mf (wpAny_rule (Mf (wpAny_setField ho hd (by simp) ?_)));show wpAny _ _ (newExc (.type "StopIteration") [] >>= _) _ _ _
 refine Mf ?_;simp only[newExc,newTuple]
 refine Mf (Nf ?_ (by size_fits));refine Mf (m:=firstArgMember _ _) (wpAny_of_eq (a:=Value.none) (by first | rfl | (simp only[firstArgMember];rfl)) ?_)
 refine Nf ?_ (by size_fits);simp only[raiseNew]
 refine Mf (wpAny_handled ?_);first | rw[show A.in1.handled=none from hh] | rw[hh]
 exact Mf (Mm (wpAny_throw (hE _ _ (((Heap.SameBut.update ..).extBut.push _).push _) ⟨_,Mq _ rfl,rfl⟩)))
inductive Src where
 | lst (a:Ml)
 | tup (a:Ml)
 | txt (x:Str) (t:Tok)
def Src.val:Src->Mg
 | .lst a=>.ref a
 | .tup a=>.ref a
 | .txt x t=>.str x t
noncomputable def Src.obj:Src->Obj
 | .lst a=>{cls:=.type "list_iterator",data:=.fields #[.ref a,.int 0 0]}
 | .tup a=>{cls:=.type "tuple_iterator",data:=.fields #[.ref a,.int 0 0]}
 | .txt x t=>{cls:=.type "str_ascii_iterator",data:=.fields #[.str x t,.int 0 0]}
def Src.ok(h:MI):Src->Prop
 | .lst a=>∃xs,h.IsList a xs
 | .tup a=>∃xs,h.IsTuple a xs
 | .txt x _=>x.cps.all (·<128)=true
def Src.at(it:Ml)(i:Nat)(h:MI):Src->Prop
 | .lst a=>h.IsListIter it a i
 | .tup a=>h.IsTupleIter it a i
 | .txt x t=>h.IsStrIter it "str_ascii_iterator" x t i
theorem Src.iter{S:Src}{Q:Mg->Mi->Prop}(h:S.ok s.heap)(hQ:Q (.ref s.heap.objs.size) {s with heap:=s.heap.push S.obj}):wpAny (model prog w) A (pyIter S.val) Q E s:=by
 cases S with
 | lst a=>obtain⟨xs,h⟩:=h;exact wpAny_pyIter_list h hQ
 | tup a=>obtain⟨xs,h⟩:=h;exact wpAny_pyIter_tuple h hQ
 | txt x t=>exact wpAny_pyIter_ascii h hQ
theorem Src.keep{S:Src}{it:Ml}{i:Nat}{h h':MI}(q:S.at it i h)(k:∀o,h.get? it=some o->h'.get? it=some o):S.at it i h':=by
 cases S with
 | lst a=>exact Heap.IsListIter.at q k
 | tup a=>obtain⟨o,e,r⟩:=q;exact⟨o,k o e,r⟩
 | txt x t=>obtain⟨o,e,r⟩:=q;exact⟨o,k o e,r⟩
theorem Src.obj_at{S:Src}{it:Ml}{i:Nat}{h:MI}(q:S.at it i h):∃o,h.get? it=some o/\∀v,o.data≠.cell v:=by
 cases S with
 | lst a=>obtain⟨o,e,c,d⟩:=q;exact⟨o,e,fun v z=>by rw[d] at z;cases z⟩
 | tup a=>obtain⟨o,e,c,d⟩:=q;exact⟨o,e,fun v z=>by rw[d] at z;cases z⟩
 | txt x t=>obtain⟨o,e,c,d⟩:=q;exact⟨o,e,fun v z=>by rw[d] at z;cases z⟩
theorem Src.start{S:Src}{it:Ml}{h:MI}(q:h.get? it=some S.obj):S.at it 0 h:=by
 cases S<;>exact⟨_,q,rfl,rfl⟩
theorem Src.nx {S:Src} {it:Ml} {i:Nat} {P:Mg->Prop} (hx:∀h tk,Good h tk->match S with
  | .lst a=>∃xs x,h.IsList a xs/\xs[i]?=some x/\P x
  | .tup a=>∃xs x,h.IsTuple a xs/\xs[i]?=some x/\P x
  | .txt x _=>∃c,x.cps[i]?=some c/\∀u,P (.str ⟨#[c]⟩ u)):Nx prog w A (rF s) Good it (fun h=>S.at it i h) (fun h=>S.at it (i+1) h) P where
 stay:=fun _ _ q k=>Src.keep q k
 stay':=fun _ _ q k=>Src.keep q k
 run:=fun h tk Q E gg q hQ=>by
  have z:=hx h tk gg
  cases S with
  | lst a=>obtain⟨xs,x,l,e,p⟩:=z;exact wpAny_nextOf_list_item (s:=rF s h tk) q l e fun h' q' sb=>hQ x h' tk p q' sb
  | tup a=>obtain⟨xs,x,l,e,p⟩:=z;exact ft (s:=rF s h tk) q l e fun h' q' sb=>hQ x h' tk p q' sb
  | txt x t=>obtain⟨c,e,p⟩:=z;exact wpAny_nextOf_ascii_item (s:=rF s h tk) q e fun h' q' sb=>hQ _ h' (tk+1) (p _) q' sb
theorem Src.ne {S:Src} {it:Ml} {i:Nat} (hh:A.handled=none) (hx:∀h tk,Good h tk->match S with
  | .lst a=>∃xs,h.IsList a xs/\xs[i]?=none
  | .tup a=>∃xs,h.IsTuple a xs/\xs[i]?=none
  | .txt x _=>x.cps[i]?=none):Ne prog w A (rF s) Good it (fun h=>S.at it i h) where
 stay:=fun _ _ q k=>Src.keep q k
 run:=fun h tk Q E gg q hQ=>by
  have z:=hx h tk gg
  cases S with
  | lst a=>obtain⟨xs,l,e⟩:=z;exact wpAny_nextOf_list_end (s:=rF s h tk) hh q l e hQ
  | tup a=>obtain⟨xs,l,e⟩:=z;exact fU (s:=rF s h tk) hh q l e hQ
  | txt x t=>exact wpAny_nextOf_ascii_end (s:=rF s h tk) hh q z hQ
end
def EE(h:MI)(S T:Src):MI:=(((h.push S.obj).push T.obj).push {cls:=.type "tuple",data:=.seq #[.ref h.objs.size,.ref (h.push S.obj).objs.size]}).push {cls:=.type "tuple",data:=.seq #[.none,.none]}
noncomputable def HY(h:MI)(S T:Src):Obj:={cls:=.type "zip",data:=.fields #[.none,.bool false,.bool false,.ref ((h.push S.obj).push T.obj).objs.size,
 .ref (((h.push S.obj).push T.obj).push {cls:=.type "tuple",data:=.seq #[.ref h.objs.size,.ref (h.push S.obj).objs.size]}).objs.size]}
theorem Src.ok_push{S T:Src}{h:MI}(q:T.ok h):T.ok (h.push S.obj):=by
 cases T with
 | lst a=>obtain⟨xs,q⟩:=q;exact⟨xs,Heap.IsList.push q _⟩
 | tup a=>obtain⟨xs,o,e,r⟩:=q;exact⟨xs,o,Mh _ e,r⟩
 | txt x t=>exact q
theorem oV(S T:Src):Meets (Builtin.«zip.__new__» ⟨[.type "zip",S.val,T.val],[]⟩) (fun _ R s=>S.ok s.heap/\T.ok s.heap/\R (.ok (.ret (.ref (EE s.heap S T).objs.size))) {s with heap:=(EE s.heap S T).push (HY s.heap S T)}):=
 .of_wp fun prog w A R s h=>by
  obtain⟨hp,g,d,tk,os⟩:=s;obtain⟨q1,q2,h⟩:=h
  have hsub:=sub_zip
  have r1:Src.ok (Shared.heap ⟨hp,g,d,tk,os⟩) S:=q1
  have r2:Src.ok (Shared.heap ⟨hp.push S.obj,g,d,tk,os⟩) T:=Src.ok_push q2
  wp_walk using Src.iter r1,Src.iter r2
  exact⟨_,rfl,h⟩
section
variable{prog:Mv}{w:MH}{A:MQ}{E:Mg->Mi->Prop}{s:Mi}
theorem HP(n:Nat):Ap (n+4) (n+2) (n+3) n (n+1):=by
 have k:∀a b:Nat,a≠b->(show Ml from a)≠(show Ml from b):=fun a b h=>h
 constructor<;>exact k _ _ (by omega)
theorem nB {S T:Src} {Q:Mg->Mi->Prop} (h1:S.ok s.heap) (h2:T.ok s.heap)
    (h:∀h' z TI TO i1 i2,Ap z TI TO i1 i2->IsZip h' z TI TO .none->IsPair h' TI (.ref i1) (.ref i2)->IsPair h' TO .none .none->S.at i1 0 h'->T.at i2 0 h'->(∀c ∈ [z,TI,TO,i1,i2],s.heap.objs.size<=c) ->
      (∀c o,s.heap.get? c=some o->h'.get? c=some o)->Q (.ref z) {s with heap:=h' }):wpAny (model prog w) A (call (.type "zip") [S.val,T.val]) Q E s:=by
  refine callType_new F.called_zip (by decide) (F.typeCall_zip_2 _ _) (F.newCall_zip_2 _ _) (fun obj=>F.args_object_init_3 obj _ _) F.entry_zip_new (oV S T) ⟨h1,h2,?_⟩
  have z1:(s.heap.push S.obj).objs.size=s.heap.objs.size+1:=Heap.size_push ..
  have z2:((s.heap.push S.obj).push T.obj).objs.size=s.heap.objs.size+2:=by rw[Heap.size_push,z1]
  have z3:(((s.heap.push S.obj).push T.obj).push {cls:=.type "tuple",data:=.seq #[.ref s.heap.objs.size,.ref (s.heap.push S.obj).objs.size]}).objs.size=s.heap.objs.size+3:=by rw[Heap.size_push,z2]
  have z4:(EE s.heap S T).objs.size=s.heap.objs.size+4:=by unfold EE;rw[Heap.size_push,z3]
  have k1:∀c o,(s.heap.push S.obj).get? c=some o->((EE s.heap S T).push (HY s.heap S T)).get? c=some o:=fun c o e=>Mh _ (Mh _ (Mh _ (Mh _ e)))
  have g1:=k1 _ _ (Mq s.heap (o:=S.obj) (by cases S<;>rfl))
  have g2:((EE s.heap S T).push (HY s.heap S T)).get? (s.heap.push S.obj).objs.size=some T.obj:=Mh _ (Mh _ (Mh _ (Mq _ (by cases T<;>rfl))))
  have g3:((EE s.heap S T).push (HY s.heap S T)).get? ((s.heap.push S.obj).push T.obj).objs.size=some _:=Mh _ (Mh _ (Mq _ rfl))
  have g4:((EE s.heap S T).push (HY s.heap S T)).get? (((s.heap.push S.obj).push T.obj).push {cls:=.type "tuple",data:=.seq #[.ref s.heap.objs.size,.ref (s.heap.push S.obj).objs.size]}).objs.size=some _:=Mh _ (Mq _ rfl)
  have g5:((EE s.heap S T).push (HY s.heap S T)).get? (EE s.heap S T).objs.size=some _:=Mq _ rfl
  refine⟨⟨_,g5,rfl⟩,h _ _ _ _ _ _ ?_ g5 g3 g4 (Src.start g1) (Src.start g2) ?_ fun c o e=>k1 c o (Mh _ e)⟩
  · rw[z4,z3,z2,z1]
    exact HP _
  · rw[z4,z3,z2,z1]
    intro c hc
    simp only[Mu,List.not_mem_nil,or_false] at hc
    rcases hc with rfl | rfl | rfl | rfl | rfl
    · exact Nat.le_add_right _ 4
    · exact Nat.le_add_right _ 2
    · exact Nat.le_add_right _ 3
    · exact Mw _
    · exact Nat.le_add_right _ 1
end
end HW
namespace HW
open PySem PySem.Spec PyProof.Rows L2
def Src.go(K:Mj)(i:Nat)(H:Hp)(v:V):Src->Prop
 | .lst a=>∃xs,ua K H a xs/\xs[i]?=some v
 | .tup a=>∃xs,uT K H a xs/\xs[i]?=some v
 | .txt x _=>∃c,x.cps[i]?=some c/\v=.str ⟨#[c]⟩
def Src.stop(K:Mj)(i:Nat)(H:Hp):Src->Prop
 | .lst a=>∃xs,ua K H a xs/\xs.length<=i
 | .tup a=>∃xs,uT K H a xs/\xs.length<=i
 | .txt x _=>x.cps.size<=i
noncomputable def LG(K:Mj)(S T:Src):It:=⟨fun i H=>(∃v,S.go K i H v)/\∃u,T.go K i H u,
 fun i H x H'=>∃a v u,x=.ref a/\H a=none/\H'=upd H a (.tup [v,u])/\(∀v',S.go K i H v'->v'=v)/\∀u',T.go K i H u'->u'=u,
 fun i H=>S.stop K i H\/((∃v,S.go K i H v)/\T.stop K i H)⟩
section
variable{X:Cx}{pins:List (Ml×Obj)}{σ:L2.St}{H:Hp}{s:Mi}{S:Src}{i:Nat}{v:V}
theorem gj{A:MQ}{it:Ml}(q:S.go X.K i H v):Nx X.prog X.w A (rF s) (fun h tk=>L2.Inv X pins σ H (rF s h tk)) it (fun h=>S.at it i h) (fun h=>S.at it (i+1) h) (RelV v):=by
 refine Src.nx fun h tk I=>?_
 cases S with
 | lst a =>
  obtain⟨xs,hq,hx⟩:=q
  obtain⟨its,rv,p,hz⟩:=I.list hq
  obtain⟨u,hu,ru⟩:=rv.get hx
  exact⟨_,u,p.isList,by simpa using hu,ru⟩
 | tup a =>
  obtain⟨xs,hq,hx⟩:=q
  obtain⟨its,rv,p,hz⟩:=I.tuple hq
  obtain⟨u,hu,ru⟩:=rv.get hx
  exact⟨its.toArray,u,p,by simpa using hu,ru⟩
 | txt x t =>
  obtain⟨c,hc,e⟩:=q
  subst e
  exact⟨c,hc,fun u=>⟨u,rfl⟩⟩
theorem ln{A:MQ}{it:Ml}(hh:A.handled=none)(q:S.stop X.K i H):Ne X.prog X.w A (rF s) (fun h tk=>L2.Inv X pins σ H (rF s h tk)) it (fun h=>S.at it i h):=by
 refine Src.ne hh fun h tk I=>?_
 cases S with
 | lst a =>
  obtain⟨xs,hq,hx⟩:=q
  obtain⟨its,rv,p,hz⟩:=I.list hq
  have hl:=rv.length
  exact⟨_,p.isList,by simp;omega⟩
 | tup a =>
  obtain⟨xs,hq,hx⟩:=q
  obtain⟨its,rv,p,hz⟩:=I.tuple hq
  have hl:=rv.length
  exact⟨its.toArray,p,by simp;omega⟩
 | txt x t=>exact Array.getElem?_eq_none q
theorem fM{v':V}(I:L2.Inv X pins σ H s)(q:S.go X.K i H v)(q':S.go X.K i H v'):v'=v:=by
 cases S with
 | lst a =>
  obtain⟨xs,hq,hx⟩:=q
  obtain⟨ys,hq',hy⟩:=q'
  rw[I.list_inj hq' hq,hx] at hy
  exact(ME hy).symm
 | tup a =>
  obtain⟨xs,hq,hx⟩:=q
  obtain⟨ys,hq',hy⟩:=q'
  rw[I.tuple_inj hq' hq,hx] at hy
  exact(ME hy).symm
 | txt x t =>
  obtain⟨c,hc,e⟩:=q
  obtain⟨c',hc',e'⟩:=q'
  rw[hc] at hc'
  cases hc'
  rw[e,e']
end
theorem Ep{P:Mv}{w:MH}{K:Mj}{es:List MJ}{x1:_}{tp:Pos}{z TI TO i1 i2:Ml}(S T:Src)(D:Ap z TI TO i1 i2) :
  Turn P w K (.Tuple es x1 tp) (LG K S T) [z,TI,TO,i1,i2] z (fun i h=>IsZip h z TI TO .none/\IsPair h TI (.ref i1) (.ref i2)/\(∃a b,IsPair h TO a b)/\S.at i1 i h/\T.at i2 i h) where
 mem:=M4
 obj:=fun i h ⟨q1,q2,⟨a,b,q3⟩,q4,q5⟩ c hc=>by
  simp only[Mu,List.not_mem_nil,or_false] at hc
  rcases hc with rfl | rfl | rfl | rfl | rfl
  ·exact⟨_,q1,fun v e=>nomatch (show Data.fields _=Data.cell v from e)⟩
  ·exact⟨_,q2,fun v e=>nomatch (show Data.seq _=Data.cell v from e)⟩
  ·exact⟨_,q3,fun v e=>nomatch (show Data.seq _=Data.cell v from e)⟩
  ·exact Src.obj_at q4
  ·exact Src.obj_at q5
 keep:=fun i h h' ⟨q1,q2,⟨a,b,q3⟩,q4,q5⟩ k=>⟨k _ (by simp) _ q1,k _ (by simp) _ q2,⟨a,b,k _ (by simp) _ q3⟩,Src.keep q4 (k _ (by simp)),Src.keep q5 (k _ (by simp))⟩
 item:=by
  rintro X rfl rfl rfl hc i pins s σ H E I hf ⟨q1,q2,⟨a,b,q3⟩,q4,q5⟩ ⟨⟨v,g1⟩,⟨u,g2⟩⟩
  have cl:Cl (fun h tk=>L2.Inv X pins σ H (rF s h tk)) [z,TO,i1,i2]:=fun c hc h tk h' tk' J k=>by
   obtain⟨f0,f1,f2,f3,f4,f5⟩:=hf c (by simp only[Mu,List.not_mem_nil,or_false] at hc ⊢;rcases hc with rfl | rfl | rfl | rfl<;>simp)
   exact J.turned (t':=tk') k f0 f1 f3 f4 f5
  obtain⟨f0,f1,f2,f3,f4,f5⟩:=hf z (by simp)
  refine lx (Good:=fun h tk=>L2.Inv X pins σ H (rF s h tk)) D q1 q2 q3 I cl (gj g1) (gj g2) q4 q5 fun h5 tk u1 u2 h8 G5 p1 p2 z5 I5 O5 t1 t2 z8 k8=>?_
  refine wpAny_letOwnedTupleGo_zip (s:=rF s h8 tk) z8 fun h9 z9 s9=>?_
  have hn:H h5.objs.size=none:=G5.hok.fresh (Mw _)
  have lt:∀{c o},h5.get? c=some o->c≠h5.objs.size:=fun e=>MM (MD e)
  have J6:L2.Inv X pins σ (upd H h5.objs.size (.tup [v,u])) {rF s h5 tk with heap:=h5.push {cls:=.type "tuple",data:=.seq #[u1,u2]},toks:=tk}:=
   G5.laid (t':=tk) (fun b u e=>Mh _ e) (Mw _) ⟨show 2<=sizeLine by decide,[u1,u2],.cons p1 (.cons p2 .nil),⟨_,Mq _ rfl,rfl,⟨_,rfl⟩,rfl⟩⟩
  have J8:L2.Inv X pins σ (upd H h5.objs.size (.tup [v,u])) (rF s h8 tk):=J6.turned (t':=tk) (fun b o n e=>k8 b o n e) (by rw[ar (lt z5)];exact f0) f1 f3 f4 f5
  have J9:L2.Inv X pins σ (upd H h5.objs.size (.tup [v,u])) (rF s h9 tk):=J8.turned (t':=tk) (fun b o n e=>s9.extBut b o n e) (by rw[ar (lt z5)];exact f0) f1 f3 f4 f5
  have up:∀c o,c≠z->h5.get? c=some o->h9.get? c=some o:=fun c o n e=>s9.extBut c o n (k8 c o n (Mh _ e))
  refine⟨.ref h5.objs.size,_,J9,rfl,⟨_,v,u,rfl,hn,rfl,fun v' q=>fM I g1 q,fun u' q=>fM I g2 q⟩,⟨z9,up _ _ D.a1 I5,⟨u1,u2,up _ _ D.a2 O5⟩,Src.keep t1 fun o=>up _ o D.a3,Src.keep t2 fun o=>up _ o D.a4⟩,fun c hc=>?_⟩
  have lv:∃o,h5.get? c=some o:=by
   simp only[Mu,List.not_mem_nil,or_false] at hc
   rcases hc with rfl | rfl | rfl | rfl | rfl
   ·exact⟨_,z5⟩
   ·exact⟨_,I5⟩
   ·exact⟨_,O5⟩
   ·obtain⟨o,e,_⟩:=Src.obj_at t1;exact⟨o,e⟩
   ·obtain⟨o,e,_⟩:=Src.obj_at t2;exact⟨o,e⟩
  obtain⟨o,e⟩:=lv
  rw[ar (lt e)]
  exact(hf c hc).1
 done:=by
  rintro X rfl rfl rfl hc i pins s σ H E I hf ⟨q1,q2,⟨a,b,q3⟩,q4,q5⟩ hg
  have cl:Cl (fun h tk=>L2.Inv X pins σ H (rF s h tk)) [z,TO,i1,i2]:=fun c hc h tk h' tk' J k=>by
   obtain⟨f0,f1,f2,f3,f4,f5⟩:=hf c (by simp only[Mu,List.not_mem_nil,or_false] at hc ⊢;rcases hc with rfl | rfl | rfl | rfl<;>simp)
   exact J.turned (t':=tk') k f0 f1 f3 f4 f5
  refine mK (Good:=fun h tk=>L2.Inv X pins σ H (rF s h tk)) (st1:=fun h=>S.at i1 i h) (st2:=fun h=>T.at i2 i h) (st1':=fun h=>S.at i1 (i+1) h) (P1:=fun u=>∃v,RelV v u) D q1 q2 q3 I cl q4 q5 ?_ fun h' tk J=>⟨rfl,J⟩
  rcases hg with hg | ⟨⟨v,g1⟩,g2⟩
  ·exact .inl (ln (I.ok.hd hc) hg)
  ·refine .inr ⟨?_,ln (I.ok.hd hc) g2⟩
   have n:=gj (s:=s) (pins:=pins) (σ:=σ) (A:=X.A.in1) (it:=i1) g1
   exact⟨n.stay,n.stay',fun h tk Q E c1 c2 c3=>n.run h tk Q E c1 c2 fun u h' tk' p=>c3 u h' tk' ⟨v,p⟩⟩
 self:=fun _ _ _ _ _ st h=>wpAny_pyIter_zip st.1 h
section
variable{X:Cx}
def CI(K:Mj)(H:Hp)(ds:LD):Src->Prop
 | .lst a=>∃xs,ua K H a xs/\k9 K H ds xs
 | .tup a=>∃xs,uT K H a xs/\k9 K H ds xs
 | .txt x _=>ds=chars x
theorem Cs{x:Str}{i:Nat}{d:D}(e:(chars x)[i]?=some d):∃c,x.cps[i]?=some c/\d=.str ⟨#[c]⟩:=by
 unfold chars at e
 rw[Nb] at e
 obtain⟨c,e1,e⟩:=rm e
 exact⟨c,by simpa using e1,e.symm⟩
theorem zD{K:Mj}{H H2:Hp}{ds:LD}{S:Src}{i:Nat}{d:D}(h:CI K H ds S)(k:Kp H H2)(e:ds[i]?=some d):∃v,S.go K i H2 v/\Rep K H2 d v:=by
 cases S with
 | lst a =>
  obtain⟨xs,hq,t⟩:=h
  obtain⟨v,h1,h2⟩:=t.get e
  exact⟨v,⟨xs,k.seq hq,h1⟩,h2.kp k⟩
 | tup a =>
  obtain⟨xs,hq,t⟩:=h
  obtain⟨v,h1,h2⟩:=t.get e
  exact⟨v,⟨xs,k.tup hq,h1⟩,h2.kp k⟩
 | txt x t =>
  cases (show ds=_ from h)
  obtain⟨c,h1,rfl⟩:=Cs e
  exact⟨_,⟨c,h1,rfl⟩,rfl⟩
theorem Cr{K:Mj}{H H2:Hp}{ds:LD}{S:Src}{i:Nat}(h:CI K H ds S)(k:Kp H H2)(e:ds.length<=i):S.stop K i H2:=by
 cases S with
 | lst a=>obtain⟨xs,hq,t⟩:=h;exact⟨xs,k.seq hq,by rw[<- t.length];exact e⟩
 | tup a=>obtain⟨xs,hq,t⟩:=h;exact⟨xs,k.tup hq,by rw[<- t.length];exact e⟩
 | txt x t =>
  cases (show ds=_ from h)
  have hl:(chars x).length=x.cps.size:=by simp[chars]
  rw[hl] at e
  exact e
theorem lE{pins:List (Ml×Obj)}{σ:L2.St}{H:Hp}{s:Mi}{x:D}{v:V}{u:Mg}{xs:LD}(I:L2.Inv X pins σ H s)(e:l8? x=some xs)(r:Rep X.K H x v)(ru:RelV v u) :
  ∃S:Src,u=S.val/\S.ok s.heap/\CI X.K H xs S:=by
 cases x with
 | tup ds =>
  cases e
  obtain⟨a,vs,rfl,hq,t⟩:=r
  cases (show u=_ from ru)
  obtain⟨its,rv,p,hz⟩:=I.tuple hq
  exact⟨.tup a,rfl,⟨its.toArray,p⟩,vs,hq,t⟩
 | lst ds =>
  cases e
  obtain⟨a,vs,rfl,hq,t⟩:=r
  cases (show u=_ from ru)
  obtain⟨its,rv,p,hz⟩:=I.list (ua.of hq)
  exact⟨.lst a,rfl,⟨_,p.isList⟩,vs,ua.of hq,t⟩
 | str z =>
  replace e:(if z.cps.all (·<128) then some (chars z) else none)=some xs:=e
  split at e
  ·rename_i hz
   cases e
   cases (show v=_ from r)
   obtain⟨t,rfl⟩:=ru
   exact⟨.txt z t,rfl,hz,rfl⟩
  ·cases e
 | _=>cases e
end
end HW
namespace HW
open PySem
def GE:List (Str×D)->Str->OD
 | [],_=>none
 | p::r,x=>if p.1=x then some p.2 else GE r x
end HW
namespace L2
open PySem PySem.Spec PyProof.Rows
section
variable{κ:Type}[DecidableEq κ]
def vD(kvs:List (κ×V))(k:κ):Me V:=(kvs.find? fun kv=>decide (kv.1=k)).map (·.2)
def putK(kvs:List (κ×V))(k:κ)(v:V):List (κ×V):=
 if (kvs.any fun kv=>decide (kv.1=k))=true then kvs.map (fun kv=>if kv.1=k then (kv.1,v) else kv) else kvs++[(k,v)]
def Gu(kvs:List (κ×V))(k:κ):List (κ×V):=kvs.filter fun kv=>decide (kv.1≠k)
theorem wc{p:κ×V}{r:List (κ×V)}{k:κ}(e:p.1=k):vD (p::r) k=some p.2:=by simp[vD,List.find?_cons,e]
theorem wd{p:κ×V}{r:List (κ×V)}{k:κ}(e:¬ p.1=k):vD (p::r) k=vD r k:=by simp[vD,List.find?_cons,e]
theorem Au(k:κ):∀kvs:List (κ×V),(kvs.any fun kv=>decide (kv.1=k))=(vD kvs k).isSome
 | []=>rfl
 | p::r=>by
  rw[List.any_cons]
  by_cases e:p.1=k
  ·simp only[wc e,Nc e,Bool.true_or,Option.isSome_some]
  ·rw[wd e,MZ e,Bool.false_or];exact Au k r
theorem vE.isSome_eq{o:Me V}{u:Me Mg}(r:vE o u):o.isSome=u.isSome:=by
 cases o with
 | none=>cases u with
  | none=>rfl
  | some _=>exact(show False from r).elim
 | some _=>cases u with
  | none=>exact(show False from r).elim
  | some _=>rfl
theorem vE.getD{o:Me V}{u:Me Mg}{d:V}{d':Mg}(r:vE o u)(rd:RelV d d'):RelV (o.getD d) (u.getD d'):=by
 cases o with
 | none=>cases u with
  | none=>exact rd
  | some _=>exact(show False from r).elim
 | some _=>cases u with
  | none=>exact(show False from r).elim
  | some _=>exact r
theorem KV.val{kvs:List (κ×V)}{vs:List (κ×Mg)}(r:KV kvs vs)(k:κ):vE (vD kvs k) (valueAt vs k):=by
 unfold KV at r
 induction r with
 | nil=>exact True.intro
 | @cons p q ps qs h t ih =>
  obtain⟨h1,h2⟩:=h
  by_cases e:p.1=k
  ·have e':q.1=k:=h1.symm.trans e
   have b:valueAt (q::qs) k=some q.2:=by simp[valueAt,List.find?_cons,e']
   rw[wc e,b];exact h2
  ·have e':¬ q.1=k:=fun z=>e (h1.trans z)
   have b:valueAt (q::qs) k=valueAt qs k:=by simp[valueAt,List.find?_cons,e']
   rw[wd e,b];exact ih
theorem KV.any{kvs:List (κ×V)}{vs:List (κ×Mg)}(r:KV kvs vs)(k:κ):(kvs.any fun kv=>decide (kv.1=k))=vs.any fun kv=>decide (kv.1=k):=by
 unfold KV at r
 induction r with
 | nil=>rfl
 | cons h t ih=>rw[List.any_cons,List.any_cons,ih,h.1]
theorem KV.repl{kvs:List (κ×V)}{vs:List (κ×Mg)}(r:KV kvs vs)(k:κ){y:V}{u:Mg}(ry:RelV y u) :
  KV (kvs.map fun kv=>if kv.1=k then (kv.1,y) else kv) (vs.map fun kv=>if kv.1=k then (kv.1,u) else kv):=by
 unfold KV at r ⊢
 induction r with
 | nil=>exact .nil
 | @cons p q ps qs h t ih =>
  rw[M9,M9]
  refine .cons ?_ ih
  obtain⟨h1,h2⟩:=h
  by_cases e:p.1=k
  ·rw[Mo e,Mo (h1.symm.trans e)];exact⟨h1,ry⟩
  ·rw[Mx e,Mx (fun z=>e (h1.trans z))];exact⟨h1,h2⟩
theorem KV.put{kvs:List (κ×V)}{vs:List (κ×Mg)}(r:KV kvs vs)(k:κ){y:V}{u:Mg}(ry:RelV y u):KV (putK kvs k y) (stored vs k u):=by
 unfold putK stored
 rw[r.any k]
 by_cases e:(vs.any fun kv=>decide (kv.1=k))=true
 ·rw[Mo e,Mo e];exact r.repl k ry
 ·rw[Mx e,Mx e];exact Paired.snoc r ⟨rfl,ry⟩
theorem KV.drop{kvs:List (κ×V)}{vs:List (κ×Mg)}(r:KV kvs vs)(k:κ):KV (Gu kvs k) (without vs k):=by
 unfold KV at r ⊢
 unfold Gu without
 induction r with
 | nil=>exact .nil
 | @cons p q ps qs h t ih =>
  obtain⟨h1,h2⟩:=h
  rw[List.filter_cons,List.filter_cons]
  by_cases e:p.1=k
  ·have a:¬ decide (p.1≠k)=true:=by simp[e]
   have b:¬ decide (q.1≠k)=true:=by simp[h1.symm.trans e]
   rw[Mx a,Mx b];exact ih
  ·have e':¬ q.1=k:=fun z=>e (h1.trans z)
   have a:decide (p.1≠k)=true:=by simp[e]
   have b:decide (q.1≠k)=true:=by simp[e']
   rw[Mo a,Mo b];exact .cons ⟨h1,h2⟩ ih
theorem KV.keys{kvs:List (κ×V)}{vs:List (κ×Mg)}(r:KV kvs vs):kvs.map (·.1)=vs.map (·.1):=by
 unfold KV at r
 induction r with
 | nil=>rfl
 | cons h t ih=>rw[M9,M9,ih,h.1]
theorem KV.length{kvs:List (κ×V)}{vs:List (κ×Mg)}(r:KV kvs vs):kvs.length=vs.length:=Paired.length r
end
abbrev KT(H:Hp):List (List Key×V)->List (List Key×Ml×Mg)->Prop:=Paired fun p q=>p.1=q.1/\H q.2.1=some (.tup (p.1.map kV))/\RelV p.2 q.2.2
theorem KT.val{H:Hp}{kvs:List (List Key×V)}{xs:List (List Key×Ml×Mg)}(r:KT H kvs xs)(k:List Key):vE (vD kvs k) ((atKey xs k).map (·.2)):=by
 induction r with
 | nil=>exact True.intro
 | @cons p q ps qs h t ih =>
  obtain⟨h1,_,h2⟩:=h
  by_cases e:p.1=k
  ·have e':q.1=k:=h1.symm.trans e
   have b:atKey (q::qs) k=some q.2:=by simp[atKey,List.find?_cons,e']
   rw[wc e,b];exact h2
  ·have e':¬ q.1=k:=fun z=>e (h1.trans z)
   have b:atKey (q::qs) k=atKey qs k:=by simp[atKey,List.find?_cons,e']
   rw[wd e,b];exact ih
theorem KT.repl{H:Hp}{kvs:List (List Key×V)}{xs:List (List Key×Ml×Mg)}(r:KT H kvs xs)(k:List Key){y:V}{u:Mg}(ry:RelV y u) :
  KT H (kvs.map fun kv=>if kv.1=k then (kv.1,y) else kv) (xs.map (putAt k u)):=by
 induction r with
 | nil=>exact .nil
 | @cons p q ps qs h t ih =>
  rw[M9,M9]
  refine .cons ?_ ih
  obtain⟨h1,h2,h3⟩:=h
  unfold putAt
  by_cases e:p.1=k
  ·rw[Mo e,Mo (h1.symm.trans e)];exact⟨h1,h2,ry⟩
  ·rw[Mx e,Mx (fun z=>e (h1.trans z))];exact⟨h1,h2,h3⟩
theorem KT.put{H:Hp}{kvs:List (List Key×V)}{xs:List (List Key×Ml×Mg)}(r:KT H kvs xs)(k:List Key){b:Ml}{y:V}{u:Mg}(hb:H b=some (.tup (k.map kV)))(ry:RelV y u) :
  KT H (putK kvs k y) (storedH xs k b u):=by
 have e:(kvs.any fun kv=>decide (kv.1=k))=(atKey xs k).isSome:=by
  rw[Au,(r.val k).isSome_eq,Option.isSome_map]
 unfold putK storedH
 rw[e]
 by_cases q:(atKey xs k).isSome=true
 ·rw[Mo q,Mo q];exact r.repl k ry
 ·rw[Mx q,Mx q];exact Paired.snoc r ⟨rfl,hb,ry⟩
theorem KT.keeps{H H':Hp}{kvs:List (List Key×V)}{xs:List (List Key×Ml×Mg)}(r:KT H kvs xs)(ht:∀b ys,H b=some (.tup ys)->H' b=some (.tup ys)):KT H' kvs xs:=
 Paired.mapP r fun _ _ z=>⟨z.1,ht _ _ z.2.1,z.2.2⟩
section
variable{P:Mv}{w:MH}{H:Hp}{h:MI}{a:Ml}
end
def ES(H:Hp)(a:Ml)(y:V)(r:Me V):Prop:=
 (∃kvs k,Rd H a (.dK kvs)/\y=kV k/\r=vD kvs k)\/∃kvs k b,Rd H a (.dT kvs)/\y=.ref b/\H b=some (.tup (k.map kV))/\r=vD kvs k
def Ft(H:Hp)(a:Ml)(y v:V)(H':Hp):Prop:=
 (∃kvs k,H a=some (.dK kvs)/\y=kV k/\kvs.length<sizeLine/\H'=upd H a (.dK (putK kvs k v))) \/
 ∃kvs k b,H a=some (.dT kvs)/\y=.ref b/\H b=some (.tup (k.map kV))/\kvs.length<sizeLine/\H'=upd H a (.dT (putK kvs k v))
theorem ES.k{H:Hp}{a:Ml}{kvs:List (Key×V)}{k:Key}(e:H a=some (.dK kvs)):ES H a (kV k) (vD kvs k):=.inl ⟨kvs,k,.inl e,rfl,rfl⟩
theorem ES.t{H:Hp}{a b:Ml}{kvs:List (List Key×V)}{k:List Key}(e:H a=some (.dT kvs))(eb:H b=some (.tup (k.map kV))):ES H a (.ref b) (vD kvs k):=.inr ⟨kvs,k,b,.inl e,rfl,eb,rfl⟩
theorem Ft.k{H:Hp}{a:Ml}{kvs:List (Key×V)}{k:Key}{v:V}(e:H a=some (.dK kvs))(hl:kvs.length<sizeLine):Ft H a (kV k) v (upd H a (.dK (putK kvs k v))):=.inl ⟨kvs,k,e,rfl,hl,rfl⟩
theorem Ft.t{H:Hp}{a b:Ml}{kvs:List (List Key×V)}{k:List Key}{v:V}(e:H a=some (.dT kvs))(eb:H b=some (.tup (k.map kV)))(hl:kvs.length<sizeLine) :
  Ft H a (.ref b) v (upd H a (.dT (putK kvs k v))):=.inr ⟨kvs,k,b,e,rfl,eb,hl,rfl⟩
section
variable{X:Cx}{pins:List (Ml×Obj)}{σ:St}{H:Hp}{s:Mi}{a:Ml}{y v:V}{u r:Mg}{o:Me V}{A:MQ}{E:Mg->Mi->Prop}
end
section
variable{X:Cx}{pins:List (Ml×Obj)}{σ:St}{H:Hp}{s:Mi}{a:Ml}{kvs:List (Key×V)}{k:Key}{u:Mg}{A:MQ}{E:Mg->Mi->Prop}
end
section
variable{X:Cx}{o i e value:MJ}{pos pos' tpos:Pos}{td ty tv:TE}
end
section
variable{X:Cx}{pos:Pos}
end
section
variable{X:Cx}{pins:List (Ml×Obj)}{σ:St}{H:Hp}{s:Mi}{a:Ml}{y d:V}{u r:Mg}{o:Me V}{A:MQ}{E:Mg->Mi->Prop}
end
section
variable{X:Cx}{o e f:MJ}{apos cpos:Pos}{td ty tx:TE}
end
section
variable{X:Cx}{pins:List (Ml×Obj)}{σ:St}{H:Hp}{s:Mi}{a:Ml}{kvs:List (Key×V)}{A:MQ}{E:Mg->Mi->Prop}
end
section
variable{X:Cx}{pins:List (Ml×Obj)}{σ:St}{H:Hp}{s:Mi}{a:Ml}{y:V}{u:Mg}{A:MQ}{E:Mg->Mi->Prop}
end
end L2
namespace HW
open PySem PySem.Spec PyProof.Rows L2
def K7(P:Mv)(w:MH)(a:Ml)(kvs:List (Key×V)):HO:=.ext fun h=>kvs.length<=sizeLine/\(a==sysModules)=false/\∃vs,KV kvs vs/\h.DictOf (xB P w) a vs
section
variable{X:Cx}{pins:List (Ml×Obj)}{σ:L2.St}{H:Hp}{s:Mi}{a:Ml}{kvs:List (Key×V)}
end
def uE(K:Mj)(H:Hp):List (Str×D)->List (Key×V)->Prop
 | [],vs=>vs=[]
 | p::r,vs=>∃v t,vs=(.inr p.1,v)::t/\Rep K H p.2 v/\uE K H r t
section
variable{K:Mj}{H H':Hp}
theorem uE.kp(s:Kp H H'):∀{ds:List (Str×D)} {vs:List (Key×V)},uE K H ds vs->uE K H' ds vs
 | [],_,h=>h
 | p::r,_,h=>by
  obtain⟨v,t,e,q,w⟩:=h
  exact⟨v,t,e,q.kp s,uE.kp s w⟩
theorem uE.mono(s:l0 H H'){ds:List (Str×D)}{vs:List (Key×V)}(h:uE K H ds vs):uE K H' ds vs:=h.kp (Kp.of s)
theorem uE.snoc:∀{ds:List (Str×D)} {vs:List (Key×V)} {x:Str} {d:D} {v:V},uE K H ds vs->Rep K H d v->uE K H (ds++[(x,d)]) (vs++[(.inr x,v)])
 | [],_,x,d,v,h,r=>by
  cases (show _=[] from h)
  exact⟨v,[],rfl,r,rfl⟩
 | p::ds,_,x,d,v,h,r=>by
  obtain⟨u,t,e,q,w⟩:=h
  subst e
  exact⟨u,t++[(.inr x,v)],rfl,q,uE.snoc w r⟩
theorem uE.len:∀{ds:List (Str×D)} {vs:List (Key×V)},uE K H ds vs->ds.length=vs.length
 | [],_,h=>by cases (show _=[] from h);rfl
 | p::r,_,h=>by
  obtain⟨v,t,e,q,w⟩:=h
  subst e
  simp[uE.len w]
theorem uE.at:∀{ds:List (Str×D)} {vs:List (Key×V)} {x:Str},uE K H ds vs->match GE ds x with
  | some d=>∃v,vD vs (Sum.inr x:Key)=some v/\Rep K H d v
  | none=>vD vs (Sum.inr x:Key)=none
 | [],_,x,h=>by cases (show _=[] from h);rfl
 | p::r,_,x,h=>by
  obtain⟨v,t,e,q,w⟩:=h
  subst e
  have ih:=uE.at (x:=x) w
  unfold GE
  by_cases hx:p.1=x
  ·rw[Mo hx]
   exact⟨v,wc (by rw[hx]),q⟩
  ·rw[Mx hx]
   have n:vD (((Sum.inr p.1:Key),v)::t) (Sum.inr x)=vD t (Sum.inr x):=wd fun z=>hx (Sum.inr.inj z)
   rw[n]
   exact ih
end
def LI(P:Mv)(w:MH)(K:Mj)(g:R->List (Str×D)->OD):TE:=fun σ H Q=>∃ ρ τ a ds xs d,qP K H ρ (some (.ref a)::τ) σ/\H a=some (K7 P w a xs)/\uE K H ds xs/\g ρ ds=some d/\∀v H',l0 H H'->Rep K H' d v->Q v H'
def KE(X:Cx)(e:MJ)(g:R->List (Str×D)->OD):Prop:=PE X e (LI X.prog X.w X.K g)
section
variable{X:Cx}{st:ML}{sts:List ML}{u:R->Me Out}{w:R->List (Str×D)->Me Out}{pos:Pos}{e:MJ}{es:List MJ}{f:R->OD}{F:R->Me LD}
end
section
variable{X:Cx}{sts:List ML}{w:R->List (Str×D)->Me Out}{pos:Pos}{f:R->OD}
end
end HW
namespace HW
open PySem
end HW
namespace HW
open PySem PySem.Spec PyProof.Rows L2
variable{X:Cx}
end HW
namespace HW
open PySem PySem.SetTable
theorem Dl(xs:Array Nat)(j:Nat)(H:∀a b,a<b->b<xs.size->xs.getD a 0<xs.getD b 0):∀fuel lo hi,hi - lo<=fuel->lo<=hi->hi<=xs.size ->
  (∀i,i<lo->xs.getD i 0<j)->(∀i,hi<=i->i<xs.size->j<=xs.getD i 0) ->
  below.go xs j fuel lo hi<=xs.size/\(∀i,i<below.go xs j fuel lo hi->xs.getD i 0<j)/\(∀i,below.go xs j fuel lo hi<=i->i<xs.size->j<=xs.getD i 0):=by
 intro fuel
 induction fuel with
 | zero =>
  intro lo hi h1 h2 h3 h4 h5
  have:lo=hi:=by omega
  subst this
  exact⟨h3,h4,h5⟩
 | succ fuel ih =>
  intro lo hi h1 h2 h3 h4 h5
  unfold below.go
  by_cases hlt:lo<hi
  ·rw[Mo hlt]
   have hm:(lo+hi) / 2<xs.size:=by omega
   have e:xs.getD ((lo+hi) / 2) j=xs.getD ((lo+hi) / 2) 0:=by simp[Array.getD,hm]
   show(if xs.getD ((lo+hi) / 2) j<j then _ else _:Nat)<=_/\_
   dsimp only
   rw[e]
   by_cases hc:xs.getD ((lo+hi) / 2) 0<j
   ·rw[Mo hc]
    refine ih _ _ (by omega) (by omega) h3 (fun i hi'=>?_) h5
    by_cases he:i=(lo+hi) / 2
    ·subst he;exact hc
    ·exact Nat.lt_trans (H i _ (by omega) hm) hc
   ·rw[Mx hc]
    refine ih _ _ (by omega) (by omega) (by omega) h4 (fun i hi' hs=>?_)
    by_cases he:i=(lo+hi) / 2
    ·subst he;omega
    ·have:=H _ i (by omega:(lo+hi) / 2<i) hs;omega
  ·rw[Mx hlt]
   have:lo=hi:=by omega
   subst this
   exact⟨h3,h4,h5⟩
def HM(xs:Array Nat):Prop:=∀a b,a<b->b<xs.size->xs.getD a 0<xs.getD b 0
theorem uH{xs:Array Nat}(H:HM xs)(j:Nat):below xs j<=xs.size/\(∀i,i<below xs j->xs.getD i 0<j)/\(∀i,below xs j<=i->i<xs.size->j<=xs.getD i 0):=
 Dl xs j H xs.size 0 xs.size (by omega) (by omega) (by omega) (fun i h=>by omega) (fun i h h'=>by omega)
theorem E8{xs:Array Nat}(H:HM xs):below xs 0=0:=by
 obtain⟨a,b,c⟩:=uH H 0
 rcases Nat.eq_zero_or_pos (below xs 0) with h | h
 ·exact h
 ·have:=b 0 h;omega
theorem FK{xs:Array Nat}(H:HM xs){i:Nat}(hi:i<xs.size):below xs (xs.getD i 0+1)=i+1:=by
 obtain⟨a,b,c⟩:=uH H (xs.getD i 0+1)
 generalize below xs (xs.getD i 0+1)=r at *
 rcases Nat.lt_or_ge i r with h | h
 ·rcases Nat.lt_or_ge (i+1) r with h' | h'
  ·have h1:=b (i+1) h'
   have h2:=H i (i+1) (by omega) (by omega)
   omega
  ·omega
 ·have:=c i h hi;omega
theorem wm{α:Type}(xs:Array α)(p:Nat)(x:α):(insertAt xs p x).toList=xs.toList.take p++x::xs.toList.drop p:=by
 simp[SetTable.insertAt,List.extract_eq_take_drop,List.take_of_length_le]
theorem getD_list{α:Type}(xs:Array α)(i:Nat)(d:α):xs.getD i d=xs.toList[i]?.getD d:=by simp
theorem y9{α:Type}(xs:Array α){p i:Nat}(x d:α)(hp:p<=xs.size)(h:i<p):(insertAt xs p x).getD i d=xs.getD i d:=by
 rw[getD_list,getD_list,wm,Nh (by rw[List.length_take_of_le (by simpa using hp)];exact h),List.getElem?_take_of_lt h]
theorem DZ{α:Type}(xs:Array α){p:Nat}(x d:α)(hp:p<=xs.size):(insertAt xs p x).getD p d=x:=by
 have e:(xs.toList.take p).length=p:=List.length_take_of_le (by simpa using hp)
 rw[getD_list,wm,M0 (by rw[e];exact Mw _),e,Nat.sub_self];rfl
theorem D_{α:Type}(xs:Array α){p i:Nat}(x d:α)(hp:p<=xs.size)(h:p<=i):(insertAt xs p x).getD (i+1) d=xs.getD i d:=by
 have e:(xs.toList.take p).length=p:=List.length_take_of_le (by simpa using hp)
 rw[getD_list,getD_list,wm,M0 (by rw[e];exact Nat.le_succ_of_le h),e,Nat.succ_sub h,List.getElem?_cons_succ,List.getElem?_drop,Nat.add_sub_cancel' h]
theorem sO{α:Type}(xs:Array α)(p:Nat)(x:α)(hp:p<=xs.size):(insertAt xs p x).size=xs.size+1:=by
 rw[<- M1,wm,MP,Nd,<- Nat.add_assoc,<- MP,List.take_append_drop,M1]
theorem Bt{xs:Array Nat}(H:HM xs){j:Nat}(hj:(xs[below xs j]?==some j)=false):HM (insertAt xs (below xs j) j):=by
 obtain⟨a,b,c⟩:=uH H j
 have hne:below xs j<xs.size->xs.getD (below xs j) 0≠j:=fun h e=>by
  rw[Nk h] at hj
  simp[Array.getD,h] at e
  simp[e] at hj
 generalize below xs j=r at *
 intro u v huv hv
 rw[sO _ _ _ a] at hv
 rcases Nat.lt_trichotomy v r with h2 | h2 | h2
 ·rw[y9 _ _ _ a h2,y9 _ _ _ a (Nat.lt_trans huv h2)]
  exact H u v huv (MB h2 a)
 ·subst h2
  rw[DZ _ _ _ a,y9 _ _ _ a huv]
  exact b u huv
 ·obtain⟨w,rfl⟩:∃w,v=w+1:=⟨v - 1,(Nat.succ_pred_eq_of_pos (ND (M_ _) h2)).symm⟩
  have hw:w<xs.size:=Nat.lt_of_succ_lt_succ hv
  have hrw:r<=w:=Nat.le_of_lt_succ h2
  have hjw:j<xs.getD w 0:=by
   rcases Nat.eq_or_lt_of_le hrw with q | q
   ·subst q
    exact Nat.lt_of_le_of_ne (c r hrw hw) (Ne.symm (hne hw))
   ·exact ND (c r (Mw _) (Nat.lt_trans q hw)) (H r w q hw)
  rw[D_ _ _ _ a hrw]
  rcases Nat.lt_trichotomy u r with h1 | h1 | h1
  ·rw[y9 _ _ _ a h1]
   exact Nat.lt_trans (b u h1) hjw
  ·subst h1
   rw[DZ _ _ _ a]
   exact hjw
  ·obtain⟨z,rfl⟩:∃z,u=z+1:=⟨u - 1,(Nat.succ_pred_eq_of_pos (ND (M_ _) h1)).symm⟩
   rw[D_ _ _ _ a (Nat.le_of_lt_succ h1)]
   exact H z w (Nat.lt_of_succ_lt_succ huv) hw
theorem gap{xs:Array Nat}(H:HM xs)(hs:xs.size<=7):∃j,j<8/\∀i:Nat,xs[i]?≠some j:=by
 refine Classical.byContradiction fun hn=>?_
 have hall:∀j,j<8->∃i,i<xs.size/\xs.getD i 0=j:=fun j hj=>by
  refine Classical.byContradiction fun h=>hn ⟨j,hj,fun i e=>h ⟨i,?_⟩⟩
  have:i<xs.size:=by
   rcases Nat.lt_or_ge i xs.size with h | h
   ·exact h
   ·rw[Array.getElem?_eq_none h] at e;cases e
  exact⟨this,by simp[e]⟩
 have hge:∀i,i<xs.size->i<=xs.getD i 0:=fun i=>by
  induction i with
  | zero=>intro _;omega
  | succ i ih=>intro h;have:=ih (by omega);have:=H i (i+1) (by omega) h;omega
 have hle:∀j,j<8->j<xs.size/\xs.getD j 0=j:=fun j=>by
  induction j with
  | zero =>
   intro _
   obtain⟨i,h1,h2⟩:=hall 0 (by omega)
   have:=hge i h1
   have:i=0:=by omega
   subst this;exact⟨h1,h2⟩
  | succ j ih =>
   intro hj
   obtain⟨h1,h2⟩:=ih (by omega)
   obtain⟨i,h3,h4⟩:=hall (j+1) hj
   have h5:=hge i h3
   have h6:j<i:=by
    rcases Nat.lt_trichotomy i j with h | h | h
    ·have:=H i j h h1;omega
    ·subst h;omega
    ·exact h
   have:i=j+1:=by omega
   subst this;exact⟨h3,h4⟩
 have:=hle 7 (by omega)
 omega
structure TI (t:SetTable) (n:Nat):Prop where
 mask:t.mask=7
 dum:t.dummies=#[]
 plain:t.plain=true
 ris:HM t.place
 size:t.place.size=n
theorem slot_of{t:SetTable}(hd:t.dummies=#[])(j:Nat):t.slot j=if (t.place[below t.place j]?==some j)=true then .live (below t.place j) else .empty:=by
 unfold SetTable.slot
 dsimp only
 rw[hd]
 by_cases h:(t.place[below t.place j]?==some j)=true
 ·rw[Mo h,Mo h]
 ·rw[Mx h,Mx h];rfl
def way(i pt:Nat):Nat->Nat×Nat
 | 0=>(i,pt)
 | k+1=>way ((i*5+1+pt / 32)%8) (pt / 32) k
theorem Fs(k:Nat):∀i pt m,way i pt (k+m)=way (way i pt k).1 (way i pt k).2 m:=by
 induction k with
 | zero=>intro i pt m;rw[Nat.zero_add];rfl
 | succ k ih=>intro i pt m;rw[Nat.succ_add];exact ih _ _ _
theorem D7:∀k i pt,i<8->(way i pt k).1<8
 | 0,_,_,h=>h
 | k+1,i,pt,_=>D7 k _ _ (Nat.mod_lt _ (by decide))
theorem Ds:∀k i pt,pt<32 ^ k->(way i pt k).2=0
 | 0,_,pt,h=>by simp at h;exact h
 | k+1,i,pt,h=>Ds k _ _ (by rw[Nat.pow_succ] at h;exact Nat.div_lt_of_lt_mul (by omega))
theorem EL:∀i,i<8->∀j,j<8->∃k,k<8/\(way i 0 k).1=j:=by decide
theorem CS(i pt j:Nat)(hi:i<8)(hp:pt<2 ^ 64)(hj:j<8):∃k,k<21/\(way i pt k).1=j:=by
 have h1:=Ds 13 i pt (MB hp (by decide))
 obtain⟨k,hk,e⟩:=EL (way i pt 13).1 (D7 13 _ _ hi) j hj
 refine⟨13+k,by omega,?_⟩
 rw[Fs,h1];exact e
theorem L0{t:SetTable}(hm:t.mask=7)(i pt:Nat):t.advance ⟨i,0,i,pt,none⟩=⟨(i*5+1+pt / 32)%8,0,(i*5+1+pt / 32)%8,pt / 32,none⟩:=by
 unfold advance leap runEnd
 rw[hm]
 simp only[gt_iff_lt,Ni,if_false]
 have:¬ ((i*5+1+pt / 32)%(7+1)+9<=7):=by omega
 rw[Mx this,Nat.sub_self]
theorem DY{t:SetTable}{n:Nat}(T:TI t n)(h:Int):∀k fuel i pt,k<fuel->(t.place[below t.place (way i pt k).1]?==some (way i pt k).1)=false ->
  ∃j,(t.place[below t.place j]?==some j)=false/\probe.go t (fun _=>h+1) h fuel ⟨i,0,i,pt,none⟩=some (.empty j none):=by
 intro k
 induction k with
 | zero =>
  intro fuel i pt hf he
  obtain⟨f,rfl⟩:∃f,fuel=f+1:=⟨fuel - 1,by omega⟩
  have he':(t.place[below t.place i]?==some i)=false:=he
  refine⟨i,he',?_⟩
  unfold probe.go
  show(match t.slot i with | .empty=>_ | .dummy=>_ | .live _=>_)=_
  rw[slot_of T.dum,he']
  rfl
 | succ k ih =>
  intro fuel i pt hf he
  obtain⟨f,rfl⟩:∃f,fuel=f+1:=⟨fuel - 1,by omega⟩
  cases hc:(t.place[below t.place i]?==some i) with
  | false =>
   refine⟨i,hc,?_⟩
   unfold probe.go
   show(match t.slot i with | .empty=>_ | .dummy=>_ | .live _=>_)=_
   rw[slot_of T.dum,hc]
   rfl
  | true =>
   obtain⟨j,h1,h2⟩:=ih f ((i*5+1+pt / 32)%8) (pt / 32) (by omega) he
   refine⟨j,h1,?_⟩
   unfold probe.go
   show(match t.slot i with | .empty=>_ | .dummy=>_ | .live _=>_)=_
   rw[slot_of T.dum,hc,Mo rfl]
   show(if (h+1==h)=true then _ else _)=_
   rw[Mx (by simp;omega),L0 T.mask]
   exact h2
theorem FT{t:SetTable}{n:Nat}(T:TI t n)(hn:n<=7)(h:Int):∃j,(t.place[below t.place j]?==some j)=false/\t.freeSlot h=some (j,false):=by
 obtain⟨g,hg,hgap⟩:=gap T.ris (by rw[T.size];exact hn)
 have hb:bits h<2 ^ 64:=by
  unfold bits
  have h1:=M7 h (show(0:Int)<2 ^ 64 by decide)
  have h2:=M6 h (show(2 ^ 64:Int)≠0 by decide)
  omega
 have hi:bits h%8<8:=Nat.mod_lt _ (by decide)
 obtain⟨k,hk,e⟩:=CS (bits h%8) (bits h) g hi hb hg
 have he:(t.place[below t.place (way (bits h%8) (bits h) k).1]?==some (way (bits h%8) (bits h) k).1)=false:=by
  rw[e];simpa using hgap _
 obtain⟨j,h1,h2⟩:=DY T h k (10*turns t.mask) (bits h%8) (bits h) (by rw[T.mask];unfold turns;omega) he
 refine⟨j,h1,?_⟩
 unfold SetTable.freeSlot
 have hs:t.probeStart h=⟨bits h%8,0,bits h%8,bits h,none⟩:=by
  unfold probeStart runEnd
  rw[T.mask]
  have:¬ (bits h%(7+1)+9<=7):=by omega
  dsimp only
  rw[Mx this,Nat.sub_self]
 rw[hs]
 unfold SetTable.probe
 rw[h2]
 rfl
theorem zC{t:SetTable}{es:Array (Int×Mg)}(T:TI t es.size)(hn:es.size<=6)(h:Int)(x:Mg) :
  ∃p t',p<=es.size/\layNew t es h x=(insertAt es p (h,x),t',false,false)/\TI t' (insertAt es p (h,x)).size/\t'.led=t.led/\t'.fits (insertAt es p (h,x)).size=true:=by
 obtain⟨j,h1,h2⟩:=FT T (by omega) h
 have hp:below t.place j<=es.size:=by rw[<- T.size];exact(uH T.ris j).1
 have hsz:(insertAt t.place (below t.place j) j).size=es.size+1:=by rw[sO _ _ _ (by rw[T.size];exact hp),T.size]
 have hse:(insertAt es (below t.place j) (h,x)).size=es.size+1:=sO _ _ _ hp
 have hput:t.put j=({t with place:=insertAt t.place (below t.place j) j,dummies:=#[]},below t.place j):=by
  unfold SetTable.put
  rw[T.dum]
  rfl
 have hfit:({t with place:=insertAt t.place (below t.place j) j,dummies:=#[]}:SetTable).fits (es.size+1)=true:=by
  unfold SetTable.fits SetTable.fill
  simp[hsz,T.mask];omega
 refine⟨below t.place j,{t with place:=insertAt t.place (below t.place j) j,dummies:=#[]},hp,?_,⟨T.mask,rfl,T.plain,Bt T.ris h1,by rw[hse];exact hsz⟩,rfl,by rw[hse];exact hfit⟩
 unfold layNew
 rw[h2]
 dsimp only
 rw[hput]
 dsimp only
 rw[hse]
 unfold SetTable.orStandIn
 rw[hfit]
 rfl
theorem E6{t:SetTable}{n:Nat}(T:TI t n)(hn:n<=4):t.tooFull=false:=by
 unfold SetTable.tooFull SetTable.fill
 rw[T.mask,T.dum,T.size]
 simp;omega
theorem TI.fits{t:SetTable}{n:Nat}(T:TI t n)(hn:n<=7):t.fits n=true:=by
 unfold SetTable.fits SetTable.fill
 rw[T.mask,T.dum,T.size]
 simp;omega
theorem TI.fresh(led:Bool):TI (.fresh 0 0 led) 0:=⟨rfl,rfl,rfl,fun a b h hb=>MY hb (by simp[SetTable.fresh]),rfl⟩
theorem yc{α:Type}:∀(l:List α) (i:Nat) (x:α),l[i]?=some x->(x::l.eraseIdx i).Perm l
 | [],i,x,h=>by simp at h
 | a::l,0,x,h=>by simp at h;subst h;exact .refl _
 | a::l,i+1,x,h=>by
  simp only[List.getElem?_cons_succ] at h
  simp only[List.eraseIdx_cons_succ]
  exact(List.Perm.swap _ _ _).trans ((yc l i x h).cons a)
theorem BL{α:Type}(next:Nat->Nat):∀(fuel k:Nat) (left:List α) (out:Array α),left.length=fuel->(pickOrder.go next fuel k left out).toList.Perm (out.toList++left)
 | 0,k,left,out,h=>by
  have:left=[]:=List.eq_nil_of_length_eq_zero h
  subst this;rw[M5];exact .refl _
 | fuel+1,k,left,out,h=>by
  unfold pickOrder.go
  have hlt:next k%left.length<left.length:=Nat.mod_lt _ (by omega)
  rw[List.getElem?_eq_getElem hlt]
  dsimp only
  refine(BL next fuel (k+1) _ _ (by rw[List.length_eraseIdx_of_lt hlt];omega)).trans ?_
  rw[Array.toList_push,List.append_assoc]
  exact(yc left _ _ (List.getElem?_eq_getElem hlt)).append_left _
theorem yM{α:Type}(next:Nat->Nat)(xs:Array α):(pickOrder next xs).toList.Perm xs.toList:=by
 unfold pickOrder
 exact BL next xs.size 0 xs.toList #[] (by simp)
theorem CQ{α:Type}(next:Nat->Nat)(xs:Array α):(pickOrder next xs).size=xs.size:=by
 rw[<- M1,(yM next xs).length_eq,M1]
end HW
namespace HW
noncomputable def sf(σ:List Int)(k:Int):List Int:=if σ.any (·==k) then σ else σ++[k]
def x6(xs:List Int):List Int:=xs.foldl sf []
def C0(x:Int):List Int->List Int
 | []=>[x]
 | y::r=>if x<=y then x::y::r else y::C0 x r
def uz:List Int->List Int
 | []=>[]
 | x::r=>C0 x (uz r)
noncomputable def intsOf:LD->Me (List Int)
 | []=>some []
 | .int i::r=>(intsOf r).map (i::·)
 | _::_=>none
def K1:LD->OD
 | [.lst ds]=>(intsOf ds).bind fun ns=>if ns.length<=4 then some (.lst ((uz (x6 ns)).map .int)) else none
 | _=>none
theorem wI(x:Int):∀l:List Int,(C0 x l).Perm (x::l)
 | []=>.refl _
 | y::r=>by
  unfold C0
  split
  ·exact .refl _
  ·exact((wI x r).cons y).trans (.swap _ _ _)
theorem t5:∀l:List Int,(uz l).Perm l
 | []=>.refl _
 | x::r=>(wI x _).trans ((t5 r).cons x)
theorem xK(x:Int):∀l:List Int,l.Pairwise (·<=·)->(C0 x l).Pairwise (·<=·)
 | [],_=>List.pairwise_singleton _ _
 | y::r,h=>by
  unfold C0
  have h1:∀{z},z∈r->y<=z:=fun hz=>List.rel_of_pairwise_cons h hz
  split
  ·rename_i hx
   refine List.Pairwise.cons (fun z hz=>?_) h
   rcases Mu.mp hz with e | e
   ·rw[e];exact hx
   ·exact Int.le_trans hx (h1 e)
  ·rename_i hx
   refine List.Pairwise.cons (fun z hz=>?_) (xK x r h.of_cons)
   rcases Mu.mp ((wI x r).mem_iff.mp hz) with e | e
   ·rw[e];omega
   ·exact h1 e
theorem xg:∀l:List Int,(uz l).Pairwise (·<=·)
 | []=>.nil
 | x::r=>xK x _ (xg r)
theorem ou{ns ns':List Int}(hp:ns'.Perm ns)(hs:ns'.Pairwise (·<=·)):ns'=uz ns:=
 List.Perm.eq_of_pairwise (fun _ _ _ _ a b=>Int.le_antisymm a b) hs (xg ns) (hp.trans (t5 ns).symm)
theorem wa:∀(xs σ:List Int),(xs.foldl sf σ).length<=σ.length+xs.length
 | [],σ=>Mw _
 | x::r,σ=>by
  refine MN (wa r (sf σ x)) ?_
  have:(sf σ x).length<=σ.length+1:=by
   unfold sf
   split
   ·omega
   ·simp
  rw[Nd];omega
def uc(i:Nat)(s:R->Me Bool)(f:R->Me LD)(w:R->LD->Me Out):R->LD->Me Out:=fun ρ ds=>(s ρ).bind fun b =>
 if b then (f ρ).bind fun es=>if ρ.length=i/\es.length<=1000 then w ρ es else none else w ρ ds
end HW
namespace HW
open PySem
def Ic:Mg->Int
 | .int n _=>n
 | _=>0
def u0(b:Bool)(h:MI)(S:Ml)(ks:List Int):Prop:=
 ∃o es ep t,h.get? S=some o/\o.ExactSet/\o.data=.set es ep t/\(∀e∈es.toList,∃k tk,e=(hashInt k,Value.int k tk))/\TI t es.size/\t.led=b/\(es.toList.map fun e=>Ic e.2).Perm ks
theorem u0.at{b:Bool}{h h':MI}{S:Ml}{ks:List Int}(x:u0 b h S ks)(e:∀o,h.get? S=some o->h'.get? S=some o):u0 b h' S ks:=let ⟨o,es,ep,t,ho,r⟩:=x;⟨o,es,ep,t,e _ ho,r⟩
theorem Aw(k:Int):∀l:List (Int×Mg),(∀e∈l,∃k tk,e=(hashInt k,Value.int k tk))->(l.findIdx? fun e=>Value.isInt k e.2).isSome=(l.map fun e=>Ic e.2).any (·==k)
 | [],_=>rfl
 | e::l,h=>by
  obtain⟨k',tk,rfl⟩:=h e (.head _)
  rw[List.findIdx?_cons,M9,List.any_cons]
  have e1:Value.isInt k (Value.int k' tk)=(k'==k):=by
   unfold Value.isInt
   simp[BEq.comm]
  show(if Value.isInt k (Value.int k' tk)=true then some 0 else _).isSome=((k'==k)||_)
  rw[e1]
  cases (k'==k) with
  | true=>rfl
  | false =>
   rw[Mx Mt,Option.isSome_map,Bool.false_or]
   exact Aw k l fun e he=>h e (.tail _ he)
theorem DV{l l':List Int}(p:l.Perm l')(k:Int):l.any (·==k)=l'.any (·==k):=p.any_eq
section
variable{prog:Mv}{w:MH}{A:MQ}{E:Mg->Mi->Prop}{s:Mi}
theorem CP{b:Bool}{S:Ml}{ks:List Int}{k:Int}{tk:Tok}{Q:Bool->Mi->Prop}(hS:u0 b s.heap S ks)(hn:ks.length<=3)
  (h:∀r h',Heap.SameBut S s.heap h'->u0 b h' S (sf ks k)->Q r {s with heap:=h' }) :
  wpAny (model prog w) A (setAddHashed S (.int k tk) ((intKind prog w).hash k)) Q E s:=by
 obtain⟨o,es,ep,t,ho,hex,hd,hel,hT,hled,hp⟩:=hS
 have hlen:es.size=ks.length:=by rw[<- hp.length_eq,Ms,M1]
 have hf:t.fits es.size=true:=hT.fits (by omega)
 have hkey:=intKind_is prog w k tk
 have hE:ElemsOf (intKind prog w) es.toList:=fun e he=>by
  obtain⟨k',tk',rfl⟩:=hel e he
  exact⟨⟨k',intKind_is prog w k' tk',rfl⟩,rfl⟩
 have hb:es.size<scanBound:=by unfold scanBound;omega
 unfold setAddHashed setAddHashedIn
 refine wpAny_holding (Mf (wpAny_setState_of ho hd hf ?_))
 dsimp only
 rw[byScan_of (knd:=intKind prog w) rfl hb hE]
 simp only[↓reduceIte]
 unfold setAddByScan
 refine Mf ?_
 refine Mf (wpAny_rule ?_)
 refine Mf (wpAny_setScan_of hkey ho hd hf hE ?_)
 have hany:=Aw k es.toList hel
 rw[DV hp] at hany
 cases hr:List.findIdx? (fun e=>(intKind prog w).is k e.2) es.toList with
 | some j =>
  dsimp only
  have hr':(List.findIdx? (fun e=>Value.isInt k e.2) es.toList)=some j:=hr
  rw[hr'] at hany
  have hst:sf ks k=ks:=by unfold sf;rw[<- hany];rfl
  refine Mm (Mm ?_)
  exact h false s.heap (Heap.SameBut.refl S s.heap) ⟨o,es,ep,t,ho,hex,hd,hel,hT,hled,by rw[hst];exact hp⟩
 | none =>
  dsimp only
  have hr':(List.findIdx? (fun e=>Value.isInt k e.2) es.toList)=none:=hr
  rw[hr'] at hany
  have hst:sf ks k=ks++[k]:=by unfold sf;rw[<- hany];rfl
  obtain⟨p,t',hpl,hL,hT',hled',hf'⟩:=zC hT (by omega) ((intKind prog w).hash k) (.int k tk)
  have hperm:=SetTable.insertAt_perm es p ((intKind prog w).hash k,Value.int k tk)
  have hsz:(SetTable.insertAt es p ((intKind prog w).hash k,Value.int k tk)).size=es.size+1:=sO _ _ _ hpl
  rw[hL]
  generalize SetTable.insertAt es p ((intKind prog w).hash k,Value.int k tk)=es' at *
  dsimp only
  refine Mf (wpAny_of_eq (a:=()) rfl ?_)
  rw[Mo hT'.plain]
  refine Mf ?_
  rw[hashByValue_scannable 8 (x:=Value.int k tk) rfl]
  refine Mm ?_
  show wpAny _ _ (storeSet S es' t' >>= fun _=>_) _ _ _
  refine Mf (wpAny_storeSet_of ho hd ?_ (by rw[sizeLine_eq];omega))
  show wpAny _ _ (if (!false&&t'.tooFull)=true then _ else _) _ _ _
  rw[E6 hT' (by omega)]
  refine Mm (Mm ?_)
  have hg:(s.heap.update S (Obj.putSet es' t')).get? S=some {o with data:=.set es' (ep+1) t' }:=by
   have:=Nq (Obj.putSet es' t') ho (by rw[putSet_of es' t' hd];rfl)
   rw[putSet_of es' t' hd] at this;exact this
  refine h true _ (Heap.SameBut.update s.heap S (Obj.putSet es' t')) ⟨_,es',ep+1,t',hg,hex,rfl,fun e he=>?_,hT',hled'.trans hled,?_⟩
  ·have:=hperm.mem_iff.mp he
   rw[Array.toList_push] at this
   rcases Nz.mp this with q | q
   ·exact hel e q
   ·exact⟨k,tk,Mr.mp q⟩
  ·rw[hst]
   refine(hperm.map _).trans ?_
   rw[Array.toList_push,Nn]
   exact hp.append_right _
end
end HW
namespace HW
open PySem PySem.Spec PyProof.Rows
theorem rN:Slot "set_iterator" "__next__" "set_iterator.__next__" :=
 .of (owner:="set_iterator") (n:="__next__") (by rw[typeLookup_type,builtinLookup_eq_fast];kernel_rfl) (by decide +kernel) (by decide +kernel) (by decide +kernel)
  (by first | exact .inl (by decide +kernel) | exact .inr (by decide +kernel)) (by rw[isSubtype_type];kernel_rfl)
theorem vH:entryFor table "set_iterator.__next__" = some Builtin.«set_iterator.__next__»:=entryFor_of_tree (by kernel_rfl)
theorem wf(a:Mg):argsOk "set_iterator.__next__" ⟨[a],[]⟩:=by unfold argsOk;kernel_rfl
theorem v_:Slot "set_iterator" "__iter__" "set_iterator.__iter__" :=
 .of (owner:="set_iterator") (n:="__iter__") (by rw[typeLookup_type,builtinLookup_eq_fast];kernel_rfl) (by decide +kernel) (by decide +kernel) (by decide +kernel)
  (by first | exact .inl (by decide +kernel) | exact .inr (by decide +kernel)) (by rw[isSubtype_type];kernel_rfl)
theorem yu:entryFor table "set_iterator.__iter__" = some Builtin.«dict_keyiterator.__iter__»:=
 entryFor_alias (id':="dict_keyiterator.__iter__") (by kernel_rfl) rfl (by decide +kernel) (by kernel_rfl)
theorem zi(a:Mg):argsOk "set_iterator.__iter__" ⟨[a],[]⟩:=by unfold argsOk;kernel_rfl
theorem zk:entryFor table "set.__iter__" = some Builtin.«frozenset.__iter__»:=
 entryFor_alias (id':="frozenset.__iter__") (by kernel_rfl) rfl (by decide +kernel) (by kernel_rfl)
def sM(h:MI)(it S:Ml)(slot i n ep:Nat):Prop:=∃o,h.get? it=some o/\o.cls=.type "set_iterator" /\ o.data=.fields #[.int slot 0,.int i 0,.ref S,.int n 0,.int ep 0]
def tB(h:MI)(S:Ml)(es:Array (Int×Mg))(ep:Nat)(t:SetTable):Prop:=∃o,h.get? S=some o/\o.cls=.type "set" /\ o.data=.set es ep t
def slotAt(t:SetTable):Nat->Nat
 | 0=>0
 | i+1=>t.place.getD i 0+1
def se(w:MH):Bool:=w.params.followText "set-order"
structure vP (w:MH) (S:Ml) (es:Array (Int×Mg)) (ep:Nat) (t:SetTable) (ord:Array (Int×Mg)):Prop where
 fits:t.fits es.size=true
 size:ord.size=es.size
 txt:se w=true->ord=pickOrder (w.params.setOrder S ep) es
 plc:se w=false->ord=es/\t.led=true/\(!t.plain&&decide (es.size > 1))=false/\∀i,i<=es.size->SetTable.below t.place (slotAt t i)=i
theorem sM.typeIs{s:Mi}{it S slot i n ep}(x:sM s.heap it S slot i n ep):s.TypeIs (.ref it) "set_iterator":=let ⟨o,ho,hc,_⟩:=x;⟨o,ho,hc⟩
theorem tB.typeIs{s:Mi}{S es ep t}(x:tB s.heap S es ep t):s.TypeIs (.ref S) "set":=let ⟨o,ho,hc,_⟩:=x;⟨o,ho,hc⟩
theorem tB.at{h h':MI}{S es ep t}(x:tB h S es ep t)(e:∀o,h.get? S=some o->h'.get? S=some o):tB h' S es ep t:=let ⟨o,ho,r⟩:=x;⟨o,e _ ho,r⟩
theorem sM.at{h h':MI}{it S slot i n ep}(x:sM h it S slot i n ep)(e:∀o,h.get? it=some o->h'.get? it=some o):sM h' it S slot i n ep:=let ⟨o,ho,r⟩:=x;⟨o,e _ ho,r⟩
theorem tB.lt{h:MI}{S es ep t}(x:tB h S es ep t):S<h.objs.size:=let ⟨_,ho,_⟩:=x;MD ho
section
variable{prog:Mv}{w:MH}{A:MQ}{E:Mg->Mi->Prop}{s:Mi}{S:Ml}{es ord:Array (Int×Mg)}{ep:Nat}{t:SetTable}
theorem gO{Q:(Array (Int×Mg)×Nat×SetTable)->Mi->Prop}(x:tB s.heap S es ep t)(hf:t.fits es.size=true)(h:Q (es,ep,t) s):wpAny (model prog w) A (setState S) Q E s:=by
 obtain⟨o,ho,hc,hd⟩:=x
 exact wpAny_setState_of ho hd hf h
theorem lH{Q:Array (Int×Mg)->Mi->Prop}(x:tB s.heap S es ep t)(hf:t.fits es.size=true)(h:Q es s):wpAny (model prog w) A (setEntries S) Q E s:=by
 obtain⟨o,ho,hc,hd⟩:=x
 exact wpAny_setEntries_of ho hd hf h
theorem pN{Q:Bool->Mi->Prop}(h:Q (se w) s):wpAny (model prog w) A setsByText Q E s:=by
 unfold setsByText
 exact Mf (wpAny_askSetting (Mm h))
theorem qo{Q:Mg->Mi->Prop}(x:tB s.heap S es ep t)(hO:vP w S es ep t ord)
  (h:Q (.ref s.heap.objs.size) {s with heap:=s.heap.push {cls:=.type "set_iterator",data:=.fields #[.int 0 0,.int 0 0,.ref S,.int es.size 0,.int ep 0]} }):wpAny (model prog w) A (pyIter (.ref S)) Q E s:=by
 refine wpAny_pyIter_slot x.typeIs F.slot_set_iter (wpAny_call_entry F.slot_set_iter x.typeIs zk ?_ (F.args_set_iter_1 _))
 unfold Builtin.«frozenset.__iter__»
 refine Mf (m:=Builtin.Frozenset.slot0 "__iter__" ⟨[.ref S],[]⟩) (wpAny_of_eq (a:=S) rfl ?_)
 refine Mf ?_
 unfold Builtin.Frozenset.sizeOf
 refine Mf (lH x hO.fits (Mm ?_))
 refine Mf ?_
 have hd:∀{Q':Bool->Mi->Prop},Q' false s->wpAny (model prog w) A.in1 (setDrawn S) Q' E s:=fun hq=>by
  unfold setDrawn
  refine Mf (gO x hO.fits (Mf (pN (Mm ?_))))
  have z:(!se w&&(!t.plain&&decide (es.size > 1)))=false:=by
   cases hb:se w with
   | true=>rfl
   | false=>rw[(hO.plc hb).2.2.1];rfl
  show _
  exact z ▸ hq
 refine hd ?_
 dsimp only
 rw[Mx Mt]
 refine Mf (Mm ?_)
 refine Mf ?_
 unfold setEpoch
 refine Mf (gO x hO.fits (Mm ?_))
 refine Mf (Nf (Mm ⟨_,rfl,"set_iterator",_,⟨_,Mq _ rfl,rfl⟩,rN.lookup,?_⟩))
 exact h
def nextOf(ord:Array (Int×Mg))(i nx:Nat):Me (Mg×Nat):=(ord[i]?).map fun e=>(e.2,nx)
theorem jd{slot i:Nat}{Q:Me (Mg×Nat)->Mi->Prop}(x:tB s.heap S es ep t)(hO:vP w S es ep t ord)(hs:se w=false->slot=slotAt t i)(hi:i<=es.size)
  (h:∀nx,(se w=false->nx=slotAt t (i+1))->Q (nextOf ord i nx) s):wpAny (model prog w) A (setNext S slot i ep) Q E s:=by
 unfold setNext
 refine Mf (gO x hO.fits ?_)
 dsimp only
 refine Mf (pN ?_)
 cases hb:se w with
 | true =>
  rw[Mo rfl,Mx (by simp)]
  refine Mf ?_
  unfold setWalk
  refine Mf (gO x hO.fits ?_)
  dsimp only
  refine Mf (pN ?_)
  rw[hb,Mo rfl]
  refine Mf (wpAny_askSetting (Mm (Mm ?_)))
  have:=h slot (fun z=>by rw[hb] at z;cases z)
  rw[hO.txt hb] at this
  exact this
 | false =>
  obtain⟨e1,e2,e3,e4⟩:=hO.plc hb
  rw[Mx Mt]
  show wpAny _ _ (if (!t.plain&&decide (es.size > 1))=true then _ else _) _ _ _
  rw[e3,Mx Mt]
  show wpAny _ _ ((if (!t.led&&!es.isEmpty)=true then _ else _) >>= _) _ _ _
  rw[e2,Mx (by simp)]
  refine Mf (Mm (Mm ?_))
  rw[hs hb,e4 i hi,<- e1]
  have hp:t.place.size=es.size:=by
   have:=hO.fits
   simp only[SetTable.fits,Mp,NC] at this
   exact this.1
  by_cases hlt:i<es.size
  ·have:=h (t.place.getD i 0+1) (fun _=>rfl)
   unfold nextOf at this
   rw[e1] at this ⊢
   have hpi:i<t.place.size:=by rw[hp];exact hlt
   rw[Nk hlt,Nk hpi]
   rw[Nk hlt] at this
   simp only[Array.getD_eq_getD_getElem?,Nk hpi,Option.getD_some,Option.map_some] at this
   exact this
  ·have:=h (slotAt t (i+1)) (fun _=>rfl)
   unfold nextOf at this
   rw[e1] at this ⊢
   rw[Array.getElem?_eq_none (Nat.le_of_not_lt hlt)] at this ⊢
   exact this
theorem qe{it:Ml}{slot i:Nat}{Q:Me Mg->Mi->Prop}(hit:sM s.heap it S slot i es.size ep)(hne:S≠it)(x:tB s.heap S es ep t)(hO:vP w S es ep t ord)(hs:se w=false->slot=slotAt t i)(hi:i<ord.size)
  (hQ:∀nx h',(se w=false->nx=slotAt t (i+1))->sM h' it S nx (i+1) es.size ep->Heap.ExtBut it s.heap h'->Q (some ord[i].2) {s with heap:=h' }):wpAny (model prog w) A (pyNext (.ref it)) Q E s:=by
 obtain⟨o,ho,hc,hd⟩:=id hit
 unfold pyNext
 refine Mf (wpAny_attempt (wpAny_callSpecial?_slot (name:=oS "__next__") hit.typeIs rN
  (wpAny_call_entry rN hit.typeIs vH ?_ (wf _))))
 unfold Builtin.«set_iterator.__next__»
 refine Mf (m:=slotArgs "__next__" 0 ⟨[.ref it],[]⟩) (wpAny_of_eq (a:=(.ref it,[])) rfl ?_)
 refine Mf (wpAny_fieldsOf ho hd ?_)
 dsimp only
 refine Mf (lH x hO.fits ?_)
 rw[Mx (by simp)]
 have hi':i<=es.size:=by rw[<- hO.size];exact Nat.le_of_lt hi
 show wpAny _ _ (setNext S slot i ep >>= _) _ _ _
 refine Mf (jd x hO hs hi' fun nx hnx=>?_)
 rw[nextOf,Nk hi]
 simp only[Option.map_some]
 refine Mf (wpAny_setField ho hd (by simp) ?_)
 generalize hH1:s.heap.update it (Obj.mapFields (·.setIfInBounds 0 (rawInt nx)))=H1
 have ho1:∃o1,H1.get? it=some o1/\o1.cls=.type "set_iterator" /\ o1.data=.fields #[.int nx 0,.int i 0,.ref S,.int es.size 0,.int ep 0]:=by
  subst hH1
  exact⟨_,Nq _ ho (Obj.isFreed_of_fields (Obj.data_mapFields hd _)),(Obj.cls_mapFields ..).trans hc,by rw[Obj.data_mapFields hd];simp[rawInt]⟩
 obtain⟨o1,ho1,hc1,hd1⟩:=ho1
 refine Mf (wpAny_setField (s:={s with heap:=H1}) ho1 hd1 (by simp) ?_)
 generalize hH2:H1.update it (Obj.mapFields (·.setIfInBounds 1 (rawInt ((i:Int)+1))))=H2
 have ho2:sM H2 it S nx (i+1) es.size ep:=by
  subst hH2
  exact⟨_,Nq _ ho1 (Obj.isFreed_of_fields (Obj.data_mapFields hd1 _)),(Obj.cls_mapFields ..).trans hc1,by rw[Obj.data_mapFields hd1];simp[rawInt]⟩
 have hx:Heap.ExtBut it s.heap H2:=fun b u hb e=>by
  subst hH2;subst hH1
  exact(MT _ _ (Ne.symm hb)).trans ((MT _ _ (Ne.symm hb)).trans e)
 exact Mm ⟨_,rfl,Mm (hQ nx H2 hnx ho2 hx)⟩
theorem qH{it:Ml}{slot i:Nat}{Q:Me Mg->Mi->Prop}(hh:A.handled=none)(hit:sM s.heap it S slot i es.size ep)(hne:S≠it)(x:tB s.heap S es ep t)(hO:vP w S es ep t ord)(hs:se w=false->slot=slotAt t i)(hi:i=ord.size)
  (hQ:∀h',Heap.ExtBut it s.heap h'->Q none {s with heap:=h' }):wpAny (model prog w) A (pyNext (.ref it)) Q E s:=by
 obtain⟨o,ho,hc,hd⟩:=id hit
 unfold pyNext
 refine Mf (wpAny_attempt (wpAny_callSpecial?_slot (name:=oS "__next__") hit.typeIs rN
  (wpAny_call_entry rN hit.typeIs vH ?_ (wf _))))
 unfold Builtin.«set_iterator.__next__»
 refine Mf (m:=slotArgs "__next__" 0 ⟨[.ref it],[]⟩) (wpAny_of_eq (a:=(.ref it,[])) rfl ?_)
 refine Mf (wpAny_fieldsOf ho hd ?_)
 dsimp only
 refine Mf (lH x hO.fits ?_)
 rw[Mx (by simp)]
 have hi':i<=es.size:=by rw[<- hO.size,hi];exact Mw _
 show wpAny _ _ (setNext S slot i ep >>= _) _ _ _
 refine Mf (jd x hO hs hi' fun nx hnx=>?_)
 rw[nextOf,Array.getElem?_eq_none (by rw[hi];exact Mw _)]
 simp only[Option.map_none]
 refine Mf (wpAny_setField ho hd (by simp) ?_)
 show wpAny _ _ (newExc (.type "StopIteration") [] >>= _) _ _ _
 refine Mf ?_
 simp only[newExc,newTuple]
 refine Mf (Nf ?_ (by size_fits))
 refine Mf (m:=firstArgMember _ _) (wpAny_of_eq (a:=Value.none) (by first | rfl | (simp only[firstArgMember];rfl)) ?_)
 refine Nf ?_ (by size_fits)
 simp only[raiseNew]
 refine Mf (wpAny_handled ?_)
 rw[show A.in1.handled=none from hh]
 refine Mf (Mm (wpAny_throw ?_))
 refine Mf (wpAny_isInstance (T:="StopIteration") (b:=true) ⟨_,Mq _ rfl,rfl⟩ isSubtype_stop ?_)
 exact Mm (hQ _ (((Heap.SameBut.update ..).extBut.push _).push _))
theorem Co(hh:A.handled=none)(I:Ml)(hne:S≠I)(hO:vP w S es ep t ord) :
  Walks prog w A I [I,S] [I] ord.size (fun i v=>∃e,ord[i]?=some e/\v=e.2) (fun i h=>(∃slot,sM h I S slot i es.size ep/\(se w=false->slot=slotAt t i))/\tB h S es ep t) where
 sub:=fun b hb=>by simp at hb;simp[hb]
 frame:=fun _ _ _ st hk=>⟨let ⟨sl,a,b⟩:=st.1;⟨sl,a.at fun o e=>hk I (by simp) o e,b⟩,st.2.at fun o e=>hk S (by simp) o e⟩
 item:=fun i s Q E hi st hQ=>by
  obtain⟨⟨sl,a,b⟩,c⟩:=st
  refine qe a hne c hO b hi fun nx h' hnx hit' hs'=>?_
  exact hQ _ h' s.toks ⟨ord[i],by simp[hi],rfl⟩ ⟨⟨nx,hit',hnx⟩,c.at fun o e=>hs' S o hne e⟩ fun b o hb e=>hs' b o (fun h=>hb (by simp[h])) e
 done:=fun s Q E st hQ=>by
  obtain⟨⟨sl,a,b⟩,c⟩:=st
  exact qH hh a hne c hO b rfl fun h' he'=>hQ h' s.toks fun b o hb e=>he' b o (fun h=>hb (by simp[h])) e
 self:=fun _ s Q E st hQ=>by
  obtain⟨⟨sl,a,b⟩,c⟩:=st
  refine wpAny_pyIter_slot a.typeIs v_ (wpAny_call_entry v_ a.typeIs yu ?_ (zi _))
  show wpAny _ _ (ret (.ref I)) _ _ s
  exact Mm ⟨_,rfl,"set_iterator",_,a.typeIs,rN.lookup,hQ⟩
theorem Du{Q:Bool->Mi->Prop}(hT:s.TypeIs (.ref S) "set")(h:Q false s):wpAny (model prog w) A (Builtin.List.listLengthHint (.ref S)) Q E s:=by
 unfold Builtin.List.listLengthHint
 refine Mf (wpAny_specialOf hT PySem.F.slot_set_len.lookup ?_)
 generalize GX:("set.__len__" : String)=id0
 wp_delta
 rw[show splitId id0=some ("set","__len__") from by subst GX;decide +kernel]
 subst GX
 refine Mf (wpAny_isInstance (T:="set") (b:=true) hT (by rw[isSubtype_type];kernel_rfl) ?_)
 refine wpAny_ite_split (fun hab=>MY hab (by decide)) (fun _=>?_)
 refine wpAny_ite_split (fun _=>?_) (fun hab=>MY (by decide +kernel) hab)
 refine Mf (wpAny_typeOf hT ?_)
 exact Mm h
theorem pz(hO:vP w S es ep t ord):W.KdlSrc prog w "set" S S ord.size (fun i v=>∃e,ord[i]?=some e/\v=e.2) (fun h=>tB h S es ep t) where
 type:=fun _ hm=>hm.typeIs
 there:=fun _ hm=>⟨hm.lt,hm.lt⟩
 keep:=fun _ _ hm hk=>hm.at fun o e=>hk S (.inl rfl) o e
 notList:=by decide
 notTuple:=by decide
 hint:=fun _ _ _ _ hm hq=>Du hm.typeIs hq
 iter:=fun _ _ hh hm=>⟨_,_,(fun _ _ hq=>qo hm hO hq),Co hh _ (MM hm.lt) hO,⟨⟨0,⟨_,Mq _ rfl,rfl,rfl⟩,fun _=>rfl⟩,hm.at fun o e=>Mh _ e⟩⟩
end
set_option maxHeartbeats 3200000
def wt(val:Nat->Int)(i:Nat):List Int:=((List.range i).map val).foldl sf []
theorem CZ(val:Nat->Int)(i:Nat):wt val (i+1)=sf (wt val i) (val i):=by
 unfold wt;rw[List.range_succ,Nn,List.foldl_append];rfl
theorem Dv(val:Nat->Int)(i:Nat):(wt val i).length<=i:=by
 have:=wa ((List.range i).map val) []
 unfold wt
 simpa using this
section
variable{prog:Mv}{w:MH}{A:MQ}{R:Result->Mi->Prop}{I:Ml}{fp wr:List Ml}{G:Array GenState->Array GenState->Prop}{n:Nat}{P:Nat->Mg->Prop}{St:Nat->Mi->Prop}
theorem nP{b:Bool}(W:WalksS prog w A.in1 I fp wr G n P St)(S:Ml)(hSf:S∉fp)
  (val:Nat->Int) (hval:∀i v,P i v->∃t,v=.int (val i) t) (hb:n<=4) :
  ∀(k i:Nat) (s:Mi),n - i=k->i<=n->St i s->u0 b s.heap S (wt val i) ->
   (∀s',Moved (S::wr) G s s'->u0 b s'.heap S (wt val n)->R (.ok (.ret .none)) s') ->
   codeAny (model prog w) A (.builtin "set.update.loop" ⟨[.ref S,.ref I],[]⟩) R s:=by
 have hSw:S∉wr:=fun h=>hSf (W.sub _ h)
 have hsub:∀b∈wr,b∈S::wr:=fun b hb=>MV _ hb
 intro k
 induction k with
 | zero =>
  intro i s hk hi hst hS hR
  have hin:i=n:=by omega
  subst hin
  refine Ny F.entry_set_update_loop ?_
  rw[Around.under_plainId F.plain_set_update_loop _]
  show wpAny _ A.in1 (pyNext (.ref I) >>= _) _ _ s
  refine Mf (W.done s _ _ hst fun s' hm=>?_)
  show wpAny _ A.in1 (ret Value.none) _ _ s'
  exact Mm (hR s' (hm.mono hsub) (hS.at fun o ho=>hm.heap S _ hSw ho))
 | succ k ih =>
  intro i s hk hi hst hS hR
  have hlt:i<n:=by omega
  refine Ny F.entry_set_update_loop ?_
  rw[Around.under_plainId F.plain_set_update_loop _]
  show wpAny _ A.in1 (pyNext (.ref I) >>= _) _ _ s
  refine Mf (W.item i s _ _ hlt hst fun v s' hP hst' hm=>?_)
  obtain⟨t,rfl⟩:=hval i v hP
  have hS':u0 b s'.heap S (wt val i):=hS.at fun o ho=>hm.heap S _ hSw ho
  show wpAny _ A.in1 (holding [Value.int (val i) t] (setAdd S (.int (val i) t)) >>= _) _ _ s'
  refine Mf (wpAny_holding ?_)
  unfold setAdd
  refine wpAny_holding ?_
  refine Mf ((intKind prog w).pyHash (k:=val i) (intKind_is _ _ _ _) ?_)
  have hroom:(wt val i).length<=3:=by have:=Dv val i;omega
  refine CP (s:={s' with toks:=s'.toks+1}) hS' hroom fun r h' hsb hS2=>?_
  have hSi:u0 b h' S (wt val (i+1)):=by rw[CZ];exact hS2
  refine Mm ⟨plainId_quiet F.plain_set_update_loop _,ih (i+1) _ (by omega) hlt (W.frame _ s' _ _ hst' (Nat.le_succ _) fun b hb o e=>?_) hSi fun s'' hm'' hS''=>?_⟩
  ·rw[hsb.2 b (fun h:b=S=>hSf (by rw[<- h];exact hb))];exact e
  ·refine hR s'' (Moved.trans W.gtrans ((hm.mono hsub).then_heap (Nat.le_succ _) fun b o hb e=>?_) hm'') hS''
   rw[hsb.2 b (fun h:b=S=>hb (by rw[h];exact M4))];exact e
end
section
variable{prog:Mv}{w:MH}{A:MQ}{E:Mg->Mi->Prop}{s:Mi}
abbrev sX(w:MH):Obj:={cls:=.type "set",dict:=none,data:=.set #[] 0 (.fresh 0 0 (!se w))}
theorem EZ(a:Mg){Q₁:Mg->Mi->Prop}
  (h:Q₁ (.ref s.heap.objs.size) {s with heap:=s.heap.push (sX w)}) :
  codeAny (model prog w) A (.call (.builtin "set.__new__") ⟨[.type "set",a],[]⟩) (wants Q₁ E) s:=by
 refine codeAny_of_tree ?_
 show wpAny _ A.in1 (do checkBuiltinCall "set.__new__" ⟨[.type "set",a],[]⟩;again (.builtin "set.__new__" ⟨[.type "set",a],[]⟩)) _ _ s
 refine Mf (wpAny_of_eq (PySem.F.newCall_set_1 a) (Mm ⟨plainId_quiet PySem.F.plain_set_new _,Ny PySem.F.entry_set_new ?_⟩))
 rw[Around.under_plainId PySem.F.plain_set_new _]
 unfold Builtin.«set.__new__» Builtin.Frozenset.newClass
 have hsub:=PySem.sub_set_self
 obtain⟨hp,g,d,tk,os⟩:=s
 dsimp only
 wp_walk
 refine wpAny_askSetting (Mm ?_)
 dsimp only
 simp only[newObj]
 refine Mf (wpAny_alloc (Mm ?_))
 exact Mm h
theorem u0.new{h:MI}{w:MH}:u0 (!se w) (h.push (sX w)) h.objs.size []:=
 ⟨sX w,#[],0,_,Mq _ rfl,⟨rfl,rfl,rfl⟩,rfl,fun e he=>by simp at he,TI.fresh _,rfl,.refl _⟩
theorem nJ {l:Ml} {items:Array Mg} {val:Nat->Int} {Q:Mg->Mi->Prop}
    (hh:A.handled=none) (hl:s.heap.IsList l items) (hval:∀(i:Nat) (v:Mg),items[i]?=some v->∃t,v=.int (val i) t) (hb:items.size<=4)
    (h:∀(h':MI) (tk:Nat),u0 (!se w) h' s.heap.objs.size (wt val items.size) ->
      (∀b o,b<s.heap.objs.size->s.heap.get? b=some o->h'.get? b=some o)->Q (.ref s.heap.objs.size) {s with heap:=h',toks:=tk}) :
    wpAny (model prog w) A (call (.type "set") [.ref l]) Q E s:=by
  obtain⟨c,tl,hmro⟩:=PySem.F.called_set.mro
  have hmade:=PySem.F.called_set.made
  have hsub:=PySem.F.called_set.sub
  refine wpAny_call (codeAny_of_tree ?_)
  show wpAny _ _ (callAny (.type "set") _) _ _ _
  refine Mm ⟨Code.quiet_builtin _ (by decide +kernel),Ny PySem.F.entry_type_call ?_⟩
  rw[Around.under_plain (weight_type_call_type "set" [.ref l] []) rfl]
  have h1:=PySem.F.called_set.notType
  have h2:=PySem.F.called_set.canCreate
  have hct:=PySem.F.typeCall_set_1 (.ref l)
  repeat (any_goals (first | assumption | wp_step))
  refine codeAny_mono (EZ (.ref l) (E:=E) (Q₁:=fun obj s₁=>obj=.ref s.heap.objs.size/\s₁={s with heap:=s.heap.push (sX w)}) ⟨rfl,rfl⟩) fun r s₁ hr=>?_
  cases r with
  | error e=>exact hr
  | ok fl =>
    cases fl with
    | ret obj =>
      obtain⟨rfl,rfl⟩:=hr
      have hS:(s.heap.push (sX w)).get? s.heap.objs.size=some (sX w):=Mq _ rfl
      have hT:Shared.TypeIs {s with heap:=s.heap.push (sX w)} (.ref s.heap.objs.size) "set":=⟨_,hS,rfl⟩
      have hli:=PySem.F.called_set.init.lookup
      have hbi:=PySem.F.called_set.init.bind (.ref s.heap.objs.size)
      repeat (any_goals (first | assumption | wp_step))
      refine codeAny_mono (codeAny_call_builtin (R:=wants (fun r s₂=>r=.none/\∃ h' tk,s₂={s with heap:=h',toks:=tk} /\
          u0 (!se w) h' s.heap.objs.size (wt val items.size) /\
          (∀b o,b<s.heap.objs.size->s.heap.get? b=some o->h'.get? b=some o)) E) PySem.F.called_set.init.plain PySem.F.entry_set_init (PySem.check_set_init_1 hT ?_)) fun r₂ s₂ hr₂=>?_
      · obtain⟨ol,hol,hcl,nl,hdl⟩:=hl
        obtain⟨ocls,odict,odata,oslots⟩:=ol
        simp only at hcl hdl
        subst hcl;subst hdl
        have hol':(s.heap.push (sX w)).get? l=some {cls:=.type "list",dict:=odict,data:=.seq items nl,slots:=oslots}:=Mh _ hol
        have hsls:=PySem.F.sub_list_set
        have hslf:=PySem.F.sub_list_frozenset
        have hne:(Value.type "list" == Value.type "dict")=false:=by decide
        have hl1:(s.heap.push (sX w)).IsList l items:=⟨_,hol',rfl,nl,rfl⟩
        unfold Builtin.«set.__init__» noKeywords Builtin.Frozenset.updateFrom
        generalize hPI:pyIter=PI
        wp_walk
        subst hPI
        refine wpAny_pyIter_list hl1 ?_
        refine Mf (wpAny_runValue ?_)
        have hlS:l<s.heap.objs.size:=MD hol
        have hh3:A.in1.in1.in1.handled=none:=by simp[hh]
        have hneI:l≠(s.heap.push (sX w)).objs.size:=by
          rw[Heap.size_push];exact MM (Nat.lt_succ_of_lt hlS)
        have hSf:s.heap.objs.size ∉ [(s.heap.push (sX w)).objs.size,l]:=by
          rw[Heap.size_push];simp only[Mu,Mr,List.not_mem_nil,or_false,not_or]
          exact⟨MM (Nv _),Nat.ne_of_gt hlS⟩
        refine nP (b:=!se w) ((Walks.list hh3 _ l hneI items).toS) s.heap.objs.size
          hSf val hval hb (items.size - 0) 0 _ (by omega) (M_ _)
          ⟨⟨_,Mq _ rfl,rfl,rfl⟩,(hl1.push _)⟩ ?hS0 ?hR
        case hS0=>exact u0.new.at fun o e=>Mh _ e
        case hR =>
          intro s' hm hS'
          obtain⟨h',g',d',tk',os'⟩:=s'
          have eg:g'=s.gens:=hm.gens
          have ed:d'=s.drawn:=hm.drawn
          have eo:os'=s.os:=hm.os
          subst eg;subst ed;subst eo
          show wpAny _ _ _ _ _ _
          refine Mm ?_
          show wpAny _ _ (ret Value.none) _ _ _
          refine Mm ⟨rfl,h',tk',rfl,hS',fun b o hb e=>?_⟩
          have hb1:b≠s.heap.objs.size:=MM hb
          have hb2:b≠(s.heap.push (sX w)).objs.size:=by
            rw[Heap.size_push];exact MM (Nat.lt_succ_of_lt hb)
          exact hm.heap b o (by simp only[Mu,Mr,List.not_mem_nil,or_false,not_or];exact⟨hb1,hb2⟩) (Mh _ (Mh _ e))
      · cases r₂ with
        | error e=>exact hr₂
        | ok fl₂ =>
          cases fl₂ with
          | ret r =>
            obtain⟨rfl,h',tk,rfl,hS',hk'⟩:=hr₂
            repeat (any_goals (first | assumption | wp_step))
            exact h _ _ hS' hk'
          | _=>exact hr₂.elim
    | _=>exact hr.elim
theorem u0.ord{h:MI}{S:Ml}{ks:List Int}(x:u0 (!se w) h S ks)(hn:ks.length<=4) :
  ∃es ep t ord,tB h S es ep t/\vP w S es ep t ord/\(ord.toList.map fun e=>Ic e.2).Perm ks/\∀e∈ord.toList,∃k tk,e.2=Value.int k tk:=by
 obtain⟨o,es,ep,t,ho,hex,hd,hel,hT,hled,hp⟩:=x
 have hlen:es.size=ks.length:=by rw[<- hp.length_eq,Ms,M1]
 have hf:t.fits es.size=true:=hT.fits (by omega)
 have hel':∀e∈es.toList,∃k tk,e.2=Value.int k tk:=fun e he=>let ⟨k,tk,q⟩:=hel e he;⟨k,tk,by rw[q]⟩
 cases hb:se w with
 | true =>
  have pp:=yM (w.params.setOrder S ep) es
  exact⟨es,ep,t,pickOrder (w.params.setOrder S ep) es,⟨o,ho,hex.1,hd⟩,⟨hf,CQ _ _,fun _=>rfl,fun z=>by rw[hb] at z;cases z⟩,(pp.map _).trans hp,fun e he=>hel' e (pp.mem_iff.mp he)⟩
 | false =>
  refine⟨es,ep,t,es,⟨o,ho,hex.1,hd⟩,⟨hf,rfl,(fun z=>by rw[hb] at z;cases z),fun _=>⟨rfl,by rw[hled,hb];rfl,by rw[hT.plain];rfl,fun i hi=>?_⟩⟩,hp,hel'⟩
  cases i with
  | zero=>exact E8 hT.ris
  | succ i=>exact FK hT.ris (by rw[hT.size];exact hi)
theorem lX:∀{vs:List Mg},(∀v∈vs,∃k tk,v=Value.int k tk)->IntsAre vs (vs.map Ic)
 | [],_=>.nil
 | v::r,h=>by
  obtain⟨k,tk,rfl⟩:=h v (.head _)
  exact .cons k tk (lX fun u hu=>h u (.tail _ hu))
theorem CD{α:Type}{acc ord:List α}(hl:acc.length=ord.length)(h:∀(j:Nat) (v:α),acc[j]?=some v->ord[j]?=some v):acc=ord:=by
 refine List.ext_getElem? fun j=>?_
 by_cases hj:j<acc.length
 ·rw[List.getElem?_eq_getElem hj];exact(h j _ (List.getElem?_eq_getElem hj)).symm
 ·rw[Np (by omega),Np (by omega)]
theorem A6{S:Ml}{ks:List Int}{Q:Mg->Mi->Prop}(hh:A.handled=none)(x:u0 (!se w) s.heap S ks)(hn:ks.length<=4)
  (h:∀(D:Ml) (h':MI) (tk n:Nat) (its:List Mg),S<D->(∀b o,s.heap.get? b=some o->h'.get? b=some o)->h'.get? D=some {cls:=.type "list",data:=.seq its.toArray n}->IntsAre its (uz ks)->Q (.ref D) {s with heap:=h',toks:=tk}) :
  wpAny (model prog w) A (call (.builtin "sorted") [.ref S]) Q E s:=by
 obtain⟨es,ep,t,ord,hI,hO,hperm,hint⟩:=x.ord hn
 have hol:ord.size=ks.length:=by rw[<- hperm.length_eq,Ms,M1]
 refine Calls.call_function_entry kind_sorted plain_sorted entry_sorted (args_sorted1 _) ?_
 unfold Builtin.«sorted»
 refine Mf (m:=checkCount "sorted" 1 1 _) (Mm ?_)
 refine Mf (W.kdu_collect (A:=A.in1) (pz hO) hh hI (by rw[sizeLine_eq];omega) fun h' tk acc hk hacc=>?_)
 have hl:acc.toList.length=ord.size:=by rw[M1];exact hacc.1
 have hae:acc.toList=ord.toList.map (·.2):=by
  refine CD (by rw[hl,Ms,M1]) fun j v e=>?_
  obtain⟨y,h1,h2⟩:=hacc.2 j v (by rw[<- Array.getElem?_toList];exact e)
  rw[Nb,Array.getElem?_toList,h1,h2];rfl
 have hints:IntsAre acc.toList (acc.toList.map Ic):=lX fun v hv=>by
  rw[hae] at hv
  obtain⟨e,he,rfl⟩:=List.mem_map.mp hv
  exact hint e he
 have hpk:(acc.toList.map Ic).Perm ks:=by
  rw[hae,List.map_map];exact hperm
 refine Mf (wpAny_newList ?_ (by rw[hl,sizeLine_eq];omega))
 have hoL:(h'.push (seqObj "list" acc.toList.toArray 0)).get? h'.objs.size=some (seqObj "list" acc.toList.toArray 0):=Mq _ rfl
 refine Mf (wpAny_holding (wpAny_call_entry slot_list_sort ⟨_,hoL,rfl⟩ entry_list_sort (list_sort_tree hoL hints (by rw[hl];omega) fun out ns' a1 a2 a3=>⟨_,rfl,?_⟩) (args_list_sort _)))
 refine Mm ⟨_,rfl,?_⟩
 have hns:ns'=uz ks:=ou (a2.trans hpk) a3
 subst hns
 have hD:S<h'.objs.size:=MD (hk S _ hI.choose_spec.1)
 obtain⟨n1,g1⟩:∃n1,((h'.push (seqObj "list" acc.toList.toArray 0)).update h'.objs.size (Obj.mapSeq fun _=>#[])).get? h'.objs.size=some (seqObj "list" #[] n1):=⟨_,get?_update_seq hoL (fun _=>#[])⟩
 have g2:((((h'.push (seqObj "list" acc.toList.toArray 0)).update h'.objs.size (Obj.mapSeq fun _=>#[])).push (seqObj "tuple" acc.toList.toArray 0)).push (seqObj "list" #[] 0)).get? h'.objs.size=some (seqObj "list" #[] n1):=Mh _ (Mh _ g1)
 obtain⟨n3,g3⟩:∃n3,(sortedHeap (h'.push (seqObj "list" acc.toList.toArray 0)) h'.objs.size acc.toList out).get? h'.objs.size=some (seqObj "list" out n3):=⟨_,get?_update_seq g2 (fun _=>out)⟩
 refine h h'.objs.size _ tk n3 out.toList hD (fun b o e=>?_) (by rw[g3]) a1
 have hb:b≠h'.objs.size:=MM (MD (hk b o e))
 exact(MT _ _ (Ne.symm hb)).trans (Mh _ (Mh _ ((MT _ _ (Ne.symm hb)).trans (Mh _ (hk b o e)))))
end
end HW
set_option maxHeartbeats 1000000
namespace HW
open PySem PySem.Spec PyProof.Rows L2
section
variable{X:Cx}
theorem cI{K:Mj}{H:Hp}:∀{ds:LD} {ns:List Int} {xs:List V} {its:List Mg},intsOf ds=some ns->k9 K H ds xs->m8 xs its->IntsAre its ns
 | [],ns,xs,its,e,r,v=>by
  cases e
  cases (show xs=[] from r)
  cases v
  exact .nil
 | .int i::ds,ns,xs,its,e,r,v=>by
  obtain⟨ms,e1,e2⟩:=rm (show(intsOf ds).map (i::·)=some ns from e)
  subst e2
  obtain⟨x,xr,rfl,r1,r2⟩:=r
  cases (show x=_ from r1)
  cases v with
  | cons v1 v2 =>
   obtain⟨t,rfl⟩:=v1
   exact .cons i t (cI e1 r2 v2)
 | .non::_,_,_,_,e,_,_=>by cases e
 | .bl _::_,_,_,_,e,_,_=>by cases e
 | .str _::_,_,_,_,e,_,_=>by cases e
 | .tup _::_,_,_,_,e,_,_=>by cases e
 | .lst _::_,_,_,_,e,_,_=>by cases e
 | .fro _::_,_,_,_,e,_,_=>by cases e
theorem eQ{K:Mj}{H:Hp}:∀{ns:List Int} {its:List Mg},IntsAre its ns->m8 (ns.map V.int) its/\k9 K H (ns.map D.int) (ns.map V.int)
 | _,_,.nil=>⟨.nil,rfl⟩
 | _,_,.cons n t r=>⟨.cons ⟨t,rfl⟩ (eQ (K:=K) (H:=H) r).1,⟨_,_,rfl,rfl,(eQ r).2⟩⟩
theorem FJ(ns:List Int):wt (fun i=>ns.getD i 0) ns.length=x6 ns:=by
 unfold wt x6
 congr 1
 refine List.ext_getElem? fun j=>?_
 rw[Nb]
 by_cases h:j<ns.length
 ·rw[List.getElem?_range h,List.getElem?_eq_getElem h];simp[h]
 ·rw[Np (by simpa using h),Np (by omega)];rfl
theorem me:∀(its:List Mg) (ns:List Int),its.length=ns.length->(∀(j:Nat) (v:Mg),its[j]?=some v->∃t,v=.int (ns.getD j 0) t)->IntsAre its ns
 | [],[],_,_=>.nil
 | [],_::_,h,_=>by cases h
 | _::_,[],h,_=>by cases h
 | v::r,n::ns,hl,h=>by
  obtain⟨t,e⟩:=h 0 v rfl
  cases (show v=.int n t from e)
  exact .cons n t (me r ns (Nat.succ.inj hl) fun j u hu=>h (j+1) u hu)
theorem qw{e:MJ}{f:R->OD}{p p' pos pos':Pos}(hc:X.calm=true)(hm:X.mg "sorted" = none)(hm':X.mg "set" = none)(he:SE X e f)(hg:Gl X "sorted":=by rfl)(hg':Gl X "set":=by rfl)(hst:noStar e=true:=by rfl) :
  SE X (.Call (.Name "sorted" p) [.Call (.Name "set" p') [e] [] pos'] [] pos) (i8 K1 (i4 f i7)):=by
 intro pins s σ H Q I ⟨ρ,d,er,eq,q⟩
 obtain⟨ds,e1,e2⟩:=i9 eq
 have hst1:=aE [] X.env hst
 refine Call_ (cT I hg hm boot_sorted ?_)
 refine Calls.callWith_builtin rfl (Calls.evalArgs_plain (Calls.spliced_cons ?_))
 refine Call_ (cT I hg' hm' boot_set ?_)
 refine PyProof.Rows.callWith_type1 (qW ((ac he af hst).1 pos' pins s σ H (fun vs H2=>l0 H H2/\k9 X.K H2 ds vs) I ⟨ρ,ds,er,e1,fun vs H2 s2 r2=>⟨s2,r2⟩⟩) fun us s1 ⟨vs,H1,I1,r1,s01,rp⟩=>?_) (by rw[hst1]) rfl
 have hh:=I1.ok.hd hc
 match ds,e2 with
 | [.lst es],e2 =>
  obtain⟨ns,e3,e4⟩:=i9 (show(intsOf es).bind _=some d from e2)
  split at e4
  case isFalse=>cases e4
  case isTrue hn =>
  cases e4
  obtain⟨v,r',rfl,⟨a,xs,rfl,ha,rx⟩,rr⟩:=rp
  cases (show r'=[] from rr)
  obtain⟨u,rfl,ru⟩:=r1.one
  cases (show u=_ from ru)
  obtain⟨_,its,n,rv,hl,eo⟩:=I1.lstM ha
  have hI:=cI e3 rx rv
  have hlen:its.length=ns.length:=IntsAre.length hI
  refine nJ (val:=fun i=>ns.getD i 0) hh ⟨_,eo,rfl,n,rfl⟩ (fun i v hv=>IntsAre.int_at hI i v (by simpa using hv)) (by rw[Mz,hlen];exact hn) fun h' tk hS hk=>?_
  have hz2:its.toArray.size=ns.length:=by rw[Mz];exact hlen
  rw[hz2,FJ] at hS
  refine Calls.spliced_nil ?_
  have hd4:(x6 ns).length<=4:=MN (wa ns []) (by simpa using hn)
  refine A6 (s:={s1 with heap:=h',toks:=tk}) hh hS hd4 fun D h2 tk2 n2 its2 hD hk2 hg2 hi2=>?_
  obtain⟨v1,v2⟩:=eQ (K:=X.K) (H:=upd H1 D (.lst ((uz (x6 ns)).map V.int))) hi2
  have hz:((uz (x6 ns)).map V.int).length<=sizeLine:=by
   rw[Ms,(t5 _).length_eq,sizeLine_eq];omega
  have hf:H1 D=none:=I1.hok.fresh (Nat.le_of_lt hD)
  refine⟨.ref D,upd H1 D (.lst ((uz (x6 ns)).map V.int)),I1.laid (t':=tk2) (fun b o eb=>hk2 b o (hk b o (MD eb) eb)) (Nat.le_of_lt hD) ⟨hz,its2,n2,v1,hg2⟩,rfl,?_⟩
  refine q _ _ (s01.trans fun b u hb=>?_) ⟨D,_,rfl,ay,v2⟩
  rw[ar fun z=>by rw[z,hf] at hb;cases hb]
  exact hb
theorem oN{a b c:MJ}{f g h:R->OD}{p p' pos pos':Pos}(hcm:X.calm=true)(hm:X.mg "list" = none)(hm':X.mg "range" = none)(ha:SE X a f)(hb:SE X b g)(hc:SE X c h)(hg:Gl X "list":=by rfl)(hg':Gl X "range":=by rfl)(hs:noStar a=true:=by rfl)(hs2:noStar b=true:=by rfl)(hs3:noStar c=true:=by rfl) :
  PE X (.Call (.Name "list" p) [.Call (.Name "range" p') [a,b,c] [] pos'] [] pos) (fun σ H Q=>∃ ρ es,qV X.K H ρ σ/\y8 f g h ρ=some es/\es.length<=1000/\∀(D:Ml) vs H1,l0 H H1->H1 D=none->k9 X.K H1 es vs->Q (.ref D) (upd H1 D (.lst vs))):=by
 have z3:=aE [] X.env hs3
 have z2:=aE [c] X.env hs2
 have z1:=aE [b,c] X.env hs
 intro pins s σ H Q I ⟨ρ,es,er,e,hn,q⟩
 obtain⟨x,e1,e⟩:=i9 e
 obtain⟨y,e2,e⟩:=i9 e
 obtain⟨z,e3,e⟩:=i9 e
 obtain⟨i,e4,e⟩:=i9 e
 obtain⟨j,e5,e⟩:=i9 e
 obtain⟨k,e6,e⟩:=i9 e
 split at e
 case isFalse=>cases e
 case isTrue hz =>
 cases e
 refine Call_ (cT I hg hm boot_list ?_)
 refine PyProof.Rows.callWith_type1 (Calls.spliced_cons ?_) rfl rfl
 refine Call_ (cT I hg' hm' boot_range ?_)
 refine PyProof.Rows.callWith_type1 (qW ((ac ha (ac hb (ac hc af hs3) hs2) hs).1 pos' pins s σ H (fun vs H2=>l0 H H2/\k9 X.K H2 [x,y,z] vs) I ⟨ρ,[x,y,z],er,by show(f ρ).bind _=_;rw[e1];show((g ρ).bind _).map _=_;rw[e2];show(((h ρ).bind _).map _).map _=_;rw[e3];rfl,fun vs H2 s2 r2=>⟨s2,r2⟩⟩) fun us s1 ⟨vs,H1,I1,r1,s01,rp⟩=>?_) (by rw[z1,z2,z3]) (by rw[z2,z3];rfl)
 obtain⟨v,r,rfl,r2,r3⟩:=rp
 obtain⟨u,r',rfl,r4,r5⟩:=r3
 obtain⟨w,r'',rfl,r6,r7⟩:=r5
 cases (show r''=_ from r7)
 have hv:=sQ e4 r2
 have hu:=sQ e5 r4
 have hw:=sQ e6 r6
 subst hv hu hw
 obtain⟨q1,q2,q3,q4,q5,q6⟩:=hz
 cases r1 with
 | cons r rr =>
  cases rr with
  | cons r' rr =>
   cases rr with
   | cons r'' rr =>
    cases rr
    obtain⟨t,rfl⟩:=r
    obtain⟨t',rfl⟩:=r'
    obtain⟨t'',rfl⟩:=r''
    refine call_range_3 (by omega) ?_ (.inl (PyProof.noPylong_small (by omega)))
    refine Calls.spliced_nil ?_
    have hlen:(wY i j k).length=t4 i j k:=by simp[wY]
    generalize hob:({cls:=.type "range",data:=.fields #[.int i t,.int j t',.int k t'']}:Obj)=ob
    have hR:IsRange (s1.heap.push ob) s1.heap.objs.size i j k t t' t'':=by subst hob;exact IsRange.new ..
    refine call_list_range (s:={s1 with heap:=s1.heap.push ob}) (n:=t4 i j k) (I1.ok.hd hcm) hR (Hu q1 q2 q3 q4 q5 q6) (CJ q5).symm (by rw[<- hlen];omega) fun h' tk acc c' hk hS' hacc=>?_
    have hD:s1.heap.objs.size<=(s1.heap.push ob).objs.size:=by rw[Heap.size_push];exact Nat.le_succ _
    generalize (s1.heap.push ob).objs.size=Da at hS' hD
    have hI:IntsAre acc.toList ((List.range (t4 i j k)).map fun (m:Nat)=>i+(m:Int)*k):=by
     refine me _ _ (by rw[M1,Ms,List.length_range];exact hacc.1) fun m v hv=>?_
     have hm:m<t4 i j k:=by
      have:=(MG.mp hv).1
      rw[M1,hacc.1] at this
      exact this
     obtain⟨t,e⟩:=hacc.2 m v (by rw[<- Array.getElem?_toList];exact hv)
     refine⟨t,e.trans ?_⟩
     simp[M2,Nb,List.getElem?_range hm]
    have hmp:wY i j k=((List.range (t4 i j k)).map fun (m:Nat)=>i+(m:Int)*k).map D.int:=by
     unfold wY;rw[List.map_map];rfl
    obtain⟨v1,v2⟩:=eQ (K:=X.K) (H:=H1) hI
    have hf:H1 Da=none:=I1.hok.fresh hD
    rw[hmp] at q
    refine⟨.ref Da,upd H1 Da (.lst (((List.range (t4 i j k)).map fun (m:Nat)=>i+(m:Int)*k).map V.int)),I1.laid (t':=tk) (o:=.lst (((List.range (t4 i j k)).map fun (m:Nat)=>i+(m:Int)*k).map V.int)) (fun b o eb=>hk b o (Mh _ eb)) hD ⟨?_,acc.toList,c',v1,by rw[hS']⟩,rfl,q Da _ H1 s01 hf v2⟩
    rw[Ms,Ms,List.length_range,<- hlen,sizeLine_eq];omega
variable{sts:List ML}
theorem oq{x:Str}{c ea eb ec:MJ}{s:R->Me Bool}{f g h:R->OD}{w:R->LD->Me Out}{px p1 p2 p1' p2' pos pos':Pos}(i:Nat)(hcm:X.calm=true)(hm:X.mg "list" = none)(hm':X.mg "range" = none)(hN:X.N.Nodup)
  (hc:ST X c s) (ha:SE X ea f) (hb:SE X eb g) (hd:SE X ec h) (h2:OB X sts w) (hix:X.N[i]?=some x:=by rfl) (hx:Loc X.env.scope x:=by first | exact Or.inl rfl | exact Or.inr rfl) (hg:Gl X "list":=by rfl) (hg':Gl X "range":=by rfl)
  (hsa:noStar ea=true:=by rfl) (hsb:noStar eb=true:=by rfl) (hsc:noStar ec=true:=by rfl)
  (hs:swapsWith (.Call (.Name "list" p1) [.Call (.Name "range" p2) [ea,eb,ec] [] p2'] [] p1') (some (.Name x px)) pos.line X.env=pure false:=by rfl) (hf:X.fn x=true\/X.env.scope.names.lookup x=some .local:=by first | exact .inl rfl | exact .inr rfl) :
  OB X (.If c [.Assign [.Name x px] (.Call (.Name "list" p1) [.Call (.Name "range" p2) [ea,eb,ec] [] p2'] [] p1') pos] [] pos'::sts) (uc i s (y8 f g h) w):=by
 intro pins st σ H E I ⟨ρ,τ,a,ds,xs,o,er,ho,rp,e,qq⟩
 obtain⟨b,eb1,e⟩:=i9 e
 refine wpAny_execs_cons (qW ((j7 hc (eP (kZ (i:=i) hN hix hx (oN (p:=p1) (p':=p2) (pos:=p1') (pos':=p2') hcm hm hm' ha hb hd hg hg' hsa hsb hsc) hs hf)) xy) pins st σ H
  {E with nx:=fun σ' H'=>(b=false/\σ'=σ/\l0 H H')\/(b=true/\∃a' vs es H1,y8 f g h ρ=some es/\σ'=σ.set i (some (.ref a'))/\H'=upd H1 a' (.lst vs)/\H1 a'=none/\l0 H H1/\k9 X.K H1 es vs)} I ?_) fun fl s1 q=>?_)
 ·refine⟨ρ,b,er.1,eb1,fun H1 s1=>?_⟩
  cases b with
  | false=>rw[Mx Mt];exact .inl ⟨rfl,rfl,s1⟩
  | true =>
   rw[Mo rfl] at e ⊢
   obtain⟨es,e1,e⟩:=i9 e
   split at e
   ·rename_i hz
    exact⟨ρ,es,er.1.mono s1,e1,hz.2,fun D vs H2 s2 hf rr=>.inr ⟨rfl,D,vs,es,H2,e1,rfl,rfl,hf,s1.trans s2,rr⟩⟩
   ·cases e
 cases fl with
 | next =>
  obtain⟨σ',H',I',q | q⟩:=q
  ·obtain⟨rfl,rfl,s1⟩:=q
   rw[Mx Mt] at e
   exact h2 pins _ _ H' E I' ⟨ρ,τ,a,ds,xs,o,er.mono s1,s1 _ _ ho,rp.mono s1,e,fun H2 k=>qq H2 ((uw.of s1).trans k)⟩
  ·obtain⟨rfl,a',vs,es,H1,e1,rfl,rfl,hf,s1',r1⟩:=q
   rw[Mo rfl,e1] at e
   simp only[Mn] at e
   split at e
   case isFalse=>cases e
   case isTrue hz =>
   have I2:=Be I' ay
   generalize hH2:upd (upd H1 a' (.lst vs)) a' (vg a' vs)=H2 at I2
   have k12:uw a' H1 H2:=by
    subst hH2
    exact uw.upd.trans uw.upd
   have s12:l0 H1 H2:=fun b u hb=>k12 b u (fun z=>by rw[z,hf] at hb;cases hb) hb
   have ho2:H2 a'=some (vg a' vs):=by subst hH2;exact ay
   have hσi:i<σ.length:=by
    have:=(MG.mp (lF er)).1
    rw[<- hz.1];exact this
   have r2:k9 X.K H2 es vs:=r1.mono s12
   refine h2 pins _ _ H2 E I2 ⟨ρ,τ,a',es,vs,o,⟨⟨?_,fun j d hd=>?_⟩,?_⟩,ho2,r2,e,fun H' k=>qq H' fun b u hne hb=>?_⟩
   ·rw[MR];exact er.1.1
   ·have hj:j<i:=by
     rw[<- hz.1];exact(MG.mp hd).1
    obtain⟨v,h1,h2⟩:=er.1.2 j d hd
    exact⟨v,by rw[MW (by omega)];exact h1,(h2.mono s1').mono s12⟩
   ·have hd:σ.drop i=some (.ref a)::τ:=by rw[<- hz.1];exact er.2
    rw[hz.1,Nj (by simpa using hσi)]
    congr 1
    ·simp
    ·rw[List.drop_set_of_lt (by omega),<- List.drop_drop,hd];rfl
   ·have hb1:=s1' _ _ hb
    exact k b u (fun z=>by rw[z,hf] at hb1;cases hb1) (s12 _ _ hb1)
 | brk=>exact q
 | cont=>exact q
 | ret v=>exact q
end
section
variable{prog:Mv}{w:MH}{A:MQ}{R':Result->Mi->Prop}{I:Ml}{fp wr:List Ml}{n:Nat}{P:Nat->Mg->Prop}{St:Nat->MI->Prop}
end
section
variable{prog:Mv}{w:MH}{A:MQ}{E:Mg->Mi->Prop}{s:Mi}
end
section
variable{X:Cx}
end
end HW
namespace HW
end HW
namespace HW
open PySem PySem.Spec PyProof.Rows L2
section
variable{prog:Mv}{w:MH}{A:MQ}{E:Mg->Mi->Prop}{s:Mi}
end
section
variable{X:Cx}
end
end HW
namespace HW
end HW
namespace HW
open PySem PySem.Spec PyProof.Rows L2
section
variable{X:Cx}
end
end HW
namespace HW
open PySem
end HW
namespace HW
open PySem PySem.Spec PyProof.Rows L2
section
variable{X:Cx}
end
abbrev sC(K:Mj)(n:Str)(st:ML)(f:Ml):Prop:=∃(oc:Mg) (od an:Me Ml) (sl:Array (Me Mg)) (kV dc pm cd ct:Mg),W.nsIn K mainGlobals n=some (some (.ref f)) /\
 K.lookup f=some ⟨oc,od,.func (W.fnOf n n (sN st) (rG st) (i6 st) .none kV dc pm an cd ct),sl⟩/\W.codeIn K cd n=true/\W.keepIn K (.ref f)=true
theorem sE{K:Mj}{n:Str}{st:ML}{f:Ml}(h:sC K n st f):∃fd,rJ K n n st f fd/\W.nsIn K mainGlobals n=some (some (.ref f)):=by
 obtain⟨oc,od,an,sl,kV,dc,pm,cd,ct,a,l,c,k⟩:=h
 exact⟨_,lL l c k,a⟩
theorem fn4_mk{K:Mj}{n:Str}{st:ML}{f:Ml}{oc:Mg}{od an:Me Ml}{sl:Array (Me Mg)}{kV dc pm cd ct:Mg}(a:W.nsIn K mainGlobals n=some (some (.ref f)))
  (l:K.lookup f=some ⟨oc,od,.func (W.fnOf n n (sN st) (rG st) (i6 st) .none kV dc pm an cd ct),sl⟩) (c:W.codeIn K cd n=true) (k:W.keepIn K (.ref f)=true):sC K n st f:=⟨oc,od,an,sl,kV,dc,pm,cd,ct,a,l,c,k⟩
theorem n6.m{P:Mv}{w:MH}{K:Mj}{mg:Str->Me Mg}{base:MI}{j k:Nat}{x:Str}{ps:List Str}{F:LD->OD}(h:n6 P w K mg base j x ps F)(hk:j<=k:=by decide):n6 P w K mg base k x ps F:=h.mono hk
end HW
namespace HW
open PySem
inductive MO where
 | nx (ρ:R)
 | rt (d:D) (ρ:R)
abbrev MU:=List Nat->R->Me MO
def uv(u:R->Me Out):MU:=fun _ ρ=>(u ρ).bind fun o=>match o with
 | .nx ρ2=>some (.nx ρ2)
 | .rt d=>some (.rt d ρ)
 | _=>none
def uR:MU:=fun _ ρ=>some (.nx ρ)
def vW(u w:MU):MU:=fun S ρ=>(u S ρ).bind fun o=>match o with
 | .nx ρ2=>w S ρ2
 | o=>some o
def CF(c:R->Me Bool)(u w:MU):MU:=fun S ρ=>(c ρ).bind fun b=>if b then u S ρ else w S ρ
noncomputable def xX(st:D->R->Me R)(u:MU)(S:List Nat):LD->R->Me MO
 | [],ρ=>some (.nx ρ)
 | d::ds,ρ=>(st d ρ).bind fun ρ1=>(u S ρ1).bind fun o=>match o with
  | .nx ρ2=>xX st u S ds ρ2
  | o=>some o
def E_(it:R->Me LD)(st:D->R->Me R)(u:MU):MU:=fun S ρ=>(it ρ).bind fun ds=>if p8 ds then xX st u S ds ρ else none
def AT:OD->Bool
 | some d=>qU d
 | none=>true
def rS(i:Nat)(ρ:R):Bool:=(ρ.set i none).all AT
noncomputable def ut:D->List Nat
 | .obj _ a _ _=>[a]
 | _=>[]
def adr:D->List Nat
 | .obj _ a _ es=>a::es.flatMap ut
 | _=>[]
def zv(S:List Nat)(as:List Nat):Bool:=as.all fun a=>S.contains a
def B7(c:List Nat->R->Me (D×R)):MU:=fun S ρ=>(c S ρ).map fun r=>.nx r.2
def y6(c:List Nat->R->Me (D×R)):MU:=fun S ρ=>(c S ρ).map fun r=>.rt r.1 r.2
noncomputable def xR:List Str->LD->Str->OD
 | k::ks,d::ds,x=>if k=x then some d else xR ks ds x
 | _,_,_=>none
def putD:List Str->LD->Str->D->List Str×LD
 | k::ks,d::ds,x,e=>if k=x then (k::ks,e::ds) else (k::(putD ks ds x e).1,d::(putD ks ds x e).2)
 | ks,ds,x,e=>(ks++[x],ds++[e])
def tK(C:Nat)(x:Str):D->OD
 | .obj k _ ks ds=>if k=C+2 then xR ks ds x else none
 | _=>none
def okN:D->Bool
 | .obj 0 _ _ es=>p8 es
 | d=>qU d
def vU(i C:Nat)(x:Str)(f:R->OD):MU:=fun S ρ=>(f ρ).bind fun d=>match i5 i ρ with
 | some (.obj k a ks ds)=>if k=C+2/\qU d=true/\rS i ρ=true/\zv S (a::ds.flatMap ut)=true/\ks.length<100/\ds.all okN=true/\(xR ks ds x).all qU=true then some (.nx (ρ.set i (some (.obj k a (putD ks ds x d).1 (putD ks ds x d).2)))) else none
 | _=>none
def FD(i C:Nat)(x:Str)(f:R->OD):MU:=fun S ρ=>(f ρ).bind fun d=>match i5 i ρ with
 | some (.obj k a ks ds)=>match xR ks ds x with
  | some (.obj 0 l ls es)=>if k=C+2/\qU d=true/\rS i ρ=true/\zv S (a::ds.flatMap ut)=true/\es.length<1000/\p8 es=true/\p8 (putD ks ds x .non).2=true/\S.contains l=true then some (.nx (ρ.set i (some (.obj k a (putD ks ds x (.obj 0 l ls (es++[d]))).1 (putD ks ds x (.obj 0 l ls (es++[d]))).2)))) else none
  | _=>none
 | _=>none
def Iv(j:Nat)(ob d:D)(ρ:R):Me (D×D):=(i5 j ρ).bind fun ob'=>if tU ob'=true/\adr ob'=adr ob then some (d,ob') else none
def Am(n N j:Nat)(g:MU):LD->Me (D×D):=fun ds=>if ds.length=n then (ds[j]?).bind fun ob=>if tU ob=true then (g (adr ob) (xk N ds)).bind fun o=>match o with
 | .nx ρ=>Iv j ob .non ρ
 | .rt d ρ=>Iv j ob d ρ
 else none else none
def sR:D->Nat
 | .obj _ a _ _=>a
 | _=>0
def ui(i:Nat)(C:Nat)(m:Str)(G:LD->Me (D×D))(F:R->Me LD)(S:List Nat)(ρ:R):Me (D×R):=(i5 i ρ).bind fun ob=>(F ρ).bind fun ds=>(G (ob::ds)).bind fun r =>
 match ob with
 | .obj k _ ks _=>if k=C+2/\ks.contains m=false/\rS i ρ=true/\zv S (adr ob)=true then some (r.1,ρ.set i (some r.2)) else none
 | _=>none
def Dp(C:Nat)(m:Str)(G:LD->OD)(f:R->OD)(F:R->Me LD):R->OD:=fun ρ=>(f ρ).bind fun ob=>(F ρ).bind fun ds=>match ob with
 | .obj k _ ks _=>if k=C+2/\ks.contains m=false then G (ob::ds) else none
 | _=>none
def uZ(N C:Nat)(f:Str)(g:MU)(ds:LD)(a l:Nat):OD:=(g [a] (xk N (.obj (C+2) a [] []::ds))).bind fun o=>match o with
 | .nx ρ=>match i5 0 ρ with
  | some (.obj k b ks es)=>if k=C+2/\b=a/\p8 es=true/\ks.length<100 then some (.obj k b (putD ks es f (.obj 0 l [] [])).1 (putD ks es f (.obj 0 l [] [])).2) else none
  | _=>none
 | _=>none
def EO:LD->OD
 | [.lst es]=>(intsOf es).bind fun ns=>if ns.length<=1000/\ns.all (fun n=>decide (0<=n/\n<1099511627776))=true then some (.int ns.sum) else none
 | _=>none
end HW
namespace HW
open PySem PySem.Spec PyProof.Rows L2
def Hh:Me HO->Prop
 | some (.ins _ _ _)=>True
 | some (.dK _)=>True
 | some (.frz _ (.own _))=>True
 | _=>False
def rH(S:List Nat)(H H':Hp):Prop:=∀b u,b∉S->H b=some u->H' b=some u
def qN(S:List Nat)(H:Hp):Prop:=∀b∈S,Hh (H b)
section
variable{S T:List Nat}{H H' H1 H2:Hp}{K:Mj}
theorem rH.of(h:l0 H H'):rH S H H':=fun b u _ e=>h b u e
theorem rH.refl:rH S H H:=fun _ _ _ e=>e
theorem rH.trans(h:rH S H H1)(k:rH S H1 H2):rH S H H2:=fun b u n e=>k b u n (h b u n e)
theorem rH.mono(h:rH S H H')(hs:∀b∈S,b∈T):rH T H H':=fun b u n e=>h b u (fun z=>n (hs b z)) e
theorem qN.same(m:qN S H)(s:l0 H H'):qN S H':=fun b hb=>by
 have h:=m b hb
 cases e:H b with
 | none=>rw[e] at h;exact h.elim
 | some u=>rw[s b u e];rw[e] at h;exact h
theorem qN.nin{a:Nat}{u:HO}(m:qN S H)(e:H a=some u)(n:¬ Hh (some u)):a∉S:=fun z=>n (by have:=m a z;rw[e] at this;exact this)
theorem rH.tup{a:Ml}{xs:List V}(m:qN S H)(s:rH S H H')(h:uT K H a xs):uT K H' a xs:=by
 rcases h with (h | ⟨o,h⟩) | h
 ·exact .inl (.inl (s _ _ (m.nin h fun z=>z) h))
 ·exact .inl (.inr ⟨o,s _ _ (m.nin h fun z=>z) h⟩)
 ·exact .inr h
theorem rH.seq{a:Ml}{xs:List V}(m:qN S H)(s:rH S H H')(h:ua K H a xs):ua K H' a xs:=by
 rcases h with (h | ⟨o,h⟩) | h
 ·exact .inl (.inl (s _ _ (m.nin h fun z=>z) h))
 ·exact .inl (.inr ⟨o,s _ _ (m.nin h fun z=>z) h⟩)
 ·exact .inr h
end
mutual
theorem Rep.kq{S:List Nat}{K:Mj}{H H':Hp}(m:qN S H)(s:rH S H H'):∀{d:D} {v:V},qU d=true->Rep K H d v->Rep K H' d v
 | .non,_,_,h=>h
 | .bl _,_,_,h=>h
 | .int _,_,_,h=>h
 | .str _,_,_,h=>h
 | .tup ds,_,hn,h=>by
  obtain⟨a,xs,e,q,r⟩:=h
  exact⟨a,xs,e,s.tup m q,k9.kq m s hn r⟩
 | .lst ds,_,hn,h=>by
  obtain⟨a,xs,e,q,r⟩:=h
  exact⟨a,xs,e,s _ _ (m.nin q fun z=>z) q,k9.kq m s hn r⟩
 | .fro ds,_,hn,h=>by
  obtain⟨a,xs,e,q,r⟩:=h
  exact⟨a,xs,e,s.seq m q,k9.kq m s hn r⟩
 | .obj ..,_,hn,_=>by cases hn
 | .rf ..,_,hn,_=>by cases hn
theorem k9.kq{S:List Nat}{K:Mj}{H H':Hp}(m:qN S H)(s:rH S H H'):∀{ds:LD} {vs:List V},p8 ds=true->k9 K H ds vs->k9 K H' ds vs
 | [],_,_,h=>h
 | d::ds,_,hn,h=>by
  have hn':(qU d&&p8 ds)=true:=hn
  rw[Mp] at hn'
  obtain⟨v,r,e,q,t⟩:=h
  exact⟨v,r,e,Rep.kq m s hn'.1 q,k9.kq m s hn'.2 t⟩
end
section
variable{S T:List Nat}{H H' H1 H2:Hp}{K:Mj}
theorem H9.mut{k a:Nat}{ks:List Str}{vs:List V}(h:H9 H k a ks vs):Hh (H a):=by
 match k,h with
 | 0,⟨_,_,_,_,e⟩=>rw[e];trivial
 | 1,⟨_,e⟩=>rw[e];trivial
 | C+2,⟨_,_,e⟩=>rw[e];trivial
theorem k9.mem:∀{ds:LD} {vs:List V} {d:D},k9 K H ds vs->d∈ds->∃v,Rep K H d v
 | [],_,_,_,h=>by cases h
 | e::ds,vs,d,h,hd=>by
  obtain⟨v,r,_,q,t⟩:=h
  rcases Mu.mp hd with rfl | hd
  ·exact⟨v,q⟩
  ·exact k9.mem t hd
theorem xw{ob:D}{v:V}(r:Rep K H ob v):qN (adr ob) H:=fun b hb=>by
 cases ob with
 | obj k a ks es =>
  obtain⟨xs,_,q,t⟩:=r
  rcases Mu.mp hb with rfl | hb
  ·exact q.mut
  ·obtain⟨e,he,hb⟩:=List.mem_flatMap.mp hb
   cases e with
   | obj k' a' ks' es' =>
    obtain⟨v',xs',_,q',_⟩:=k9.mem t he
    rw[show b=a' from Mr.mp hb]
    exact q'.mut
   | _=>cases hb
 | _=>cases hb
theorem Ba{as:List Nat}(h:zv S as=true):∀b∈as,b∈S:=fun b hb=>by
 have:=M3.mp h b hb
 simpa using this
theorem fV{ob:D}{v:V}(h:tU ob=true)(r:Rep K H ob v):v=.ref (sR ob):=by
 cases ob with
 | obj k a ks es=>obtain⟨xs,e,_⟩:=r;exact e
 | _=>cases h
theorem nN{ρ:R}{σ:L2.St}{i:Nat}{ob':D}{v:V}(er:qV K H ρ σ)(m:qN S H)(s:rH S H H')(hn:rS i ρ=true)(hv:σ[i]?=some (some v))(r:Rep K H' ob' v):qV K H' (ρ.set i (some ob')) σ:=by
 refine⟨by rw[MR];exact er.1,fun j d h=>?_⟩
 by_cases hj:j=i
 ·subst hj
  have hl:j<ρ.length:=by have:=(MG.mp h).1;simpa using this
  rw[Na hl] at h
  cases h
  exact⟨v,hv,r⟩
 ·rw[MW (Ne.symm hj)] at h
  obtain⟨u,h1,h2⟩:=er.2 j d h
  have hd:AT (some d)=true:=M3.mp hn _ (NA (i:=j) (by rw[MW (Ne.symm hj)];exact h))
  exact⟨u,h1,Rep.kq m s hd h2⟩
theorem jo{ρ:R}{σ τ:L2.St}{i:Nat}{ob':D}{v:V}(er:qP K H ρ τ σ)(m:qN S H)(s:rH S H H')(hn:rS i ρ=true)(hv:σ[i]?=some (some v))(r:Rep K H' ob' v):qP K H' (ρ.set i (some ob')) τ σ:=
 ⟨nN er.1 m s hn hv r,by rw[MR];exact er.2⟩
def Ie(K:Mj)(H:Hp)(ρ:R):Prop:=∀(j:Nat) (d:D),ρ[j]?=some (some d)->tU d=true->Rep K H d (.ref (sR d))
theorem Ie.of{ρ:R}{σ:L2.St}(e:qV K H ρ σ):Ie K H ρ:=fun j d h ho=>by
 obtain⟨v,_,r⟩:=e.2 j d h
 rw[<- fV ho r];exact r
variable(K)
def KM(E:Ends)(τ:L2.St)(o:MO)(H':Hp):Prop:=
 match o with
 | .nx ρ=>∀ σ,qP K H' ρ τ σ->E.nx σ H'
 | .rt d ρ=>∀v,Rep K H' d v->Ie K H' ρ->E.rt v H'
def HZ(S:List Nat)(u:MU):TS:=fun E σ H=>∃ ρ τ o,qP K H ρ τ σ/\qN S H/\u S ρ=some o/\∀H',rH S H H'->qN S H'->KM K E τ o H'
def zc(S:List Nat)(J:It)(ds:LD)(H:Hp):Prop:=
 (∀(i:Nat) (d:D) (H2:Hp),rH S H H2->ds[i]?=some d->J.go i H2/\∀x H3,J.yld i H2 x H3->l0 H2 H3/\Rep K H3 d x)/\∀(i:Nat) (H2:Hp),rH S H H2->ds.length<=i->J.stop i H2
def LQ(S:List Nat)(f:R->Me LD):L2.TI:=fun σ H W=>∃ ρ ds,qV K H ρ σ/\qN S H/\f ρ=some ds/\p8 ds=true/\∀J H',l0 H H'->zc K S J ds H'->W J H'
def CY(j:Nat)(G:LD->Me (D×D)):Sp:=fun vs H Q _=>∃ds ob d o',k9 K H ds vs/\ds[j]?=some ob/\tU ob=true/\G ds=some (d,o')/\∀v H',rH (adr ob) H H'->qN (adr ob) H'->Rep K H' d v->Rep K H' o' (.ref (sR ob))->Q v H'
end
def MS(X:Cx)(st:ML)(u:MU):Prop:=∀S,PS X st (HZ X.K S u)
def Cd(X:Cx)(sts:List ML)(u:MU):Prop:=∀S,PSs X sts (HZ X.K S u)
def Lz(X:Cx)(tg iter:MJ)(f:R->Me LD):Prop:=∀S,PI X tg iter (LQ X.K S f)
section
variable{X:Cx}{st:ML}{sts:List ML}{u w:MU}{pos:Pos}
theorem Ee{E:Ends}{σ:L2.St}{H:Hp}{K:Mj}{S:List Nat}{p:R->Me Out}(q:HZ K S (uv p) E σ H):Gr K p E σ H:=by
 obtain⟨ρ,τ,o,er,m,e,q⟩:=q
 obtain⟨o1,e1,e⟩:=i9 e
 refine⟨ρ,τ,o1,er,e1,fun H' s=>?_⟩
 cases o1 with
 | nx ρ2=>cases e;exact q H' (rH.of s) (m.same s)
 | rt d=>cases e;exact fun v rv=>q H' (rH.of s) (m.same s) v rv (Ie.of (er.mono s).1)
 | bk ρ2=>cases e
 | ct ρ2=>cases e
theorem fD{p:R->Me Out}(h:S1 X st p):MS X st (uv p):=fun S=>PS.imp h fun E σ H z=>Ee z
theorem jR:Cd X [] uR:=fun S=>xy.imp fun E σ H ⟨ρ,τ,o,er,m,e,q⟩=>by
 cases e
 exact q H rH.refl m σ er
theorem Fe{E:Ends}{σ:L2.St}{H:Hp}{K:Mj}{S:List Nat}(q:HZ K S (vW u w) E σ H):HZ K S u {E with nx:=HZ K S w E} σ H:=by
 obtain⟨ρ,τ,o,er,m,e,q⟩:=q
 obtain⟨o1,e1,e⟩:=i9 e
 refine⟨ρ,τ,o1,er,m,e1,fun H1 k1 m1=>?_⟩
 cases o1 with
 | nx ρ2=>exact fun σ2 er2=>⟨ρ2,τ,o,er2,m1,e,fun H2 k2 m2=>q H2 (k1.trans k2) m2⟩
 | rt d ρ2=>cases e;exact q H1 k1 m1
theorem cw(h1:MS X st u)(h2:Cd X sts w):Cd X (st::sts) (vW u w):=fun S=>(d_ (h1 S) (h2 S)).imp fun E σ H q=>Fe q
theorem bR(h1:MS X st u):Cd X [st] u:=fun S=>eP (h1 S)
theorem pF{c:MJ}{s:R->Me Bool}{B1 B2:List ML}(hc:ST X c s)(ha:Cd X B1 u)(hb:Cd X B2 w):MS X (.If c B1 B2 pos) (CF s u w):=fun S=>(j7 hc (ha S) (hb S)).imp fun E σ H ⟨ρ,τ,o,er,m,e,q⟩=>by
 obtain⟨x,e1,e⟩:=i9 e
 refine⟨ρ,x,er.1,e1,fun H1 s1=>?_⟩
 cases x with
 | true=>rw[Mo rfl] at e ⊢;exact⟨ρ,τ,o,er.mono s1,m.same s1,e,fun H2 k2 m2=>q H2 ((rH.of s1).trans k2) m2⟩
 | false=>rw[Mx Mt] at e ⊢;exact⟨ρ,τ,o,er.mono s1,m.same s1,e,fun H2 k2 m2=>q H2 ((rH.of s1).trans k2) m2⟩
theorem kh{K:Mj}{S:List Nat}{H:Hp}{a b:Int}:zc K S (Ib a (b - a).toNat) (tH a b) H:=by
 have y:∀H,sV K (Ib a (b - a).toNat) (tH a b) H:=fun H=>ig
 exact⟨fun i d H2 _ e=>(y H2).1 i d H2 (Kp.refl H2) e,fun i H2 _ hl=>(y H2).2 i H2 (Kp.refl H2) hl⟩
theorem nK{tg a:MJ}{f:R->OD}{p:Pos}(hm:X.mg "range" = none)(ha:SE X a f)(hg:Gl X "range":=by rfl)(hs:noStar a=true:=by rfl):Lz X tg (.Call (.Name "range" p) [a] [] pos) (s_ f):=fun S =>
 (iY hg hm (ac ha af hs).1 (aE [] X.env hs)).imp fun σ H W ⟨ρ,ds,er,m,e,hn,q⟩=>by
  obtain⟨x,e1,e⟩:=i9 e
  cases x with
  | int j =>
   dsimp only at e
   split at e
   ·rename_i hj
    cases e
    refine⟨ρ,[.int j],er,by show(f ρ).bind _=_;rw[e1];rfl,fun vs H1 s1 r1=>?_⟩
    obtain⟨v,r,rfl,r2,r3⟩:=r1
    cases (show v=_ from r2)
    cases (show r=_ from r3)
    refine⟨j,rfl,hj.1,hj.2,q _ H1 s1 ?_⟩
    have z:=kh (K:=X.K) (S:=S) (H:=H1) (a:=0) (b:=j)
    rw[Int.sub_zero] at z
    exact z
   ·cases e
  | _=>cases e
theorem pU{tg iter:MJ}{B:List ML}{it:R->Me LD}{stf:D->R->Me R}(hp:PassesOwn (model X.prog X.w) X.A X.env X.xe)(hc:X.calm=true)(hi:Lz X tg iter it)(hg:SG X tg stf)(hb:Cd X B u)
  (hs:∀x,foldedSetIterable iter X.env x=pure x:=by intro _;rfl):MS X (.For tg iter B [] pos) (E_ it stf u):=fun S=>(jn hp hc (hi S) hg (hb S) hs).imp fun E σ H ⟨ρ,τ,o,er,m,e,q⟩=>by
 obtain⟨ds,e1,e⟩:=i9 e
 split at e
 case isFalse=>cases e
 case isTrue hn =>
 refine⟨ρ,ds,er.1,m,e1,hn,fun J H1 s1 y=>?_⟩
 refine⟨fun i n σ' H'=>n=ds.length - i/\i<=ds.length/\rH S H1 H'/\qN S H'/\∃ ρ',qP X.K H' ρ' τ σ'/\xX stf u S (ds.drop i) ρ'=some o,⟨ds.length,by simp,M_ _,rH.refl,m.same s1,ρ,er.mono s1,by simpa using e⟩,?_⟩
 rintro i n σ' H' ⟨rfl,hi,s2,m2,ρ',er',e'⟩
 by_cases hlt:i<ds.length
 ·refine .inr ?_
  have hd:ds[i]?=some ds[i]:=by simp[hlt]
  obtain⟨hgo,hy⟩:=y.1 i ds[i] H' s2 hd
  rw[Nj hlt] at e'
  obtain⟨ρ1,e2,e'⟩:=i9 e'
  obtain⟨o1,e3,e'⟩:=i9 e'
  refine⟨hgo,fun σ2 H2=>i+1<=ds.length/\rH S H1 H2/\qN S H2/\∃ ρ',qP X.K H2 ρ' τ σ2/\xX stf u S (ds.drop (i+1)) ρ'=some o,fun σ2 H2 n2=>⟨ds.length - (i+1),by omega,rfl,n2.1,n2.2⟩,fun x H3 yx=>?_⟩
  obtain⟨s3,rx⟩:=hy x H3 yx
  refine⟨ρ',τ,ds[i],ρ1,er'.mono s3,rx,e2,fun σ4 H4 s4 er4=>⟨ρ1,τ,o1,er4,(m2.same s3).same s4,e3,fun H5 s5 m5=>?_⟩⟩
  have s15:rH S H1 H5:=s2.trans ((rH.of s3).trans ((rH.of s4).trans s5))
  cases o1 with
  | nx ρ2=>exact fun σ6 er6=>⟨hlt,s15,m5,ρ2,er6,e'⟩
  | rt d ρ2=>cases e';exact q H5 ((rH.of s1).trans s15) m5
 ·have e4:i=ds.length:=by omega
  subst e4
  rw[List.drop_length] at e'
  cases e'
  exact .inl ⟨y.2 _ H' s2 (Mw _),q H' ((rH.of s1).trans s2) m2 σ' er'⟩
end
section
variable{K:Mj}{H H':Hp}
theorem xA{x:Str}{d:D}:∀{ks:List Str} {ds:LD} {vs:List V},xR ks ds x=some d->k9 K H ds vs->ks.length=vs.length->∃v,(ks.zip vs).lookup x=some v/\Rep K H d v
 | [],_,_,e,_,_=>by cases e
 | k::ks,[],_,e,_,_=>by cases e
 | k::ks,c::ds,vs,e,r,hl=>by
  obtain⟨v,vr,rfl,r1,r2⟩:=r
  have e':(if k=x then some c else xR ks ds x)=some d:=e
  show ∃u,List.lookup x ((k,v)::ks.zip vr)=some u/\Rep K H d u
  by_cases h:k=x
  ·subst h
   rw[Mo rfl] at e'
   cases e'
   exact⟨v,by simp,r1⟩
  ·rw[Mx h] at e'
   obtain⟨u,h1,h2⟩:=xA e' r2 (by simpa using hl)
   refine⟨u,?_,h2⟩
   rw[List.lookup_cons]
   have hb:(x==k)=false:=M8.mpr (Ne.symm h)
   rw[hb];exact h1
theorem x5{x:Str}:∀{ks:List Str} {vs:List V},ks.contains x=false->(ks.zip vs).lookup x=none
 | [],_,_=>rfl
 | k::ks,[],_=>rfl
 | k::ks,v::vs,h=>by
  have h':(x==k||ks.contains x)=false:=by simpa [List.contains_cons] using h
  rw[Bool.or_eq_false_iff] at h'
  show List.lookup x ((k,v)::ks.zip vs)=none
  rw[List.lookup_cons,h'.1]
  exact x5 h'.2
theorem zL{x:Str}{e:D}{y:V}:∀{ks:List Str} {ds:LD} {vs:List V},ks.length=vs.length->ds.length=vs.length->∃vs',tT x y (ks.zip vs)=(putD ks ds x e).1.zip vs'/\(putD ks ds x e).1.length=vs'.length/\(k9 K H' ds vs->Rep K H' e y->k9 K H' (putD ks ds x e).2 vs')
 | [],[],[],_,_=>⟨[y],rfl,rfl,fun _ r=>⟨y,[],rfl,r,rfl⟩⟩
 | k::ks,d::ds,v::vs,h1,h2=>by
  obtain⟨vs',a,b,c⟩:=zL (x:=x) (e:=e) (y:=y) (ks:=ks) (ds:=ds) (vs:=vs) (by simpa using h1) (by simpa using h2)
  by_cases h:k=x
  ·refine⟨y::vs,?_,?_,fun r re=>?_⟩
   ·show(if k=x then (k,y)::ks.zip vs else _)=(putD (k::ks) (d::ds) x e).1.zip _
    rw[Mo h,putD,Mo h];rfl
   ·rw[putD,Mo h];simpa using h1
   ·rw[putD,Mo h]
    obtain⟨u,r',q,r1,r2⟩:=r
    cases q
    exact⟨y,vs,rfl,re,r2⟩
  ·refine⟨v::vs',?_,?_,fun r re=>?_⟩
   ·show(if k=x then _ else (k,v)::tT x y (ks.zip vs))=(putD (k::ks) (d::ds) x e).1.zip _
    rw[Mx h,putD,Mx h,a];rfl
   ·rw[putD,Mx h];simpa using b
   ·rw[putD,Mx h]
    obtain⟨u,r',q,r1,r2⟩:=r
    cases q
    exact⟨_,vs',rfl,r1,c r2 re⟩
 | [],_::_,[],_,h=>by cases h
 | [],_,_::_,h,_=>by cases h
 | _::_,_,[],h,_=>by cases h
 | _::_,[],_::_,_,h=>by cases h
theorem pE{a C dx:Nat}{fs:List (Str×V)}{o:HO}(ha:H a=some (.ins C dx fs)):∀{d:D} {v:V},okN d=true->Rep K H d v->Rep K (upd H a o) d v:=by
 have m:qN [a] H:=fun b hb=>by rw[Mr.mp hb,ha];trivial
 have s:rH [a] H (upd H a o):=fun b u n e=>by rw[ar fun z=>n (by rw[z];exact Mr.mpr rfl)];exact e
 intro d v h r
 match d,h,r with
 | .obj 0 l ls es,h,⟨xs,e,⟨z,its,n,rv,q⟩,t⟩ =>
  have hla:l≠a:=fun z=>by rw[z,ha] at q;cases q
  exact⟨xs,e,⟨z,its,n,rv,by rw[ar hla];exact q⟩,k9.kq m s h t⟩
 | .obj (k+1) l ls es,h,_=>cases (show qU (.obj (k+1) l ls es)=true from h)
 | .rf a,h,_=>cases (show qU (.rf a)=true from h)
 | .non,_,r=>exact r
 | .bl _,_,r=>exact r
 | .int _,_,r=>exact r
 | .str _,_,r=>exact r
 | .tup ds,h,r=>exact Rep.kq m s (d:=.tup ds) h r
 | .lst ds,h,r=>exact Rep.kq m s (d:=.lst ds) h r
 | .fro ds,h,r=>exact Rep.kq m s (d:=.fro ds) h r
theorem kg{a C dx:Nat}{fs:List (Str×V)}{o:HO}(ha:H a=some (.ins C dx fs)):∀{ds:LD} {vs:List V},ds.all okN=true->k9 K H ds vs->k9 K (upd H a o) ds vs
 | [],_,_,r=>r
 | d::ds,_,h,r=>by
  rw[Ng,Mp] at h
  obtain⟨v,vr,e,r1,r2⟩:=r
  exact⟨v,vr,e,pE ha h.1 r1,kg ha h.2 r2⟩
theorem kP{d:D}(h:qU d=true):ut d=[]:=by cases d<;>first | rfl | cases h
end
section
variable{X:Cx}{pos:Pos}
theorem dg{a:MJ}{f:Str}{C:Nat}{g:R->OD}(c:wA X.K C)(n:rA X.K C f)(ha:SE X a g)(hb:attributeBase a f X.env (eval a X.env)=eval a X.env:=by rfl):SE X (.Attribute a f pos) (v9 (tK C f) g):=(nL ha hb).imp fun σ H Q ⟨ρ,d,er,e,q⟩=>by
 obtain⟨x,e1,e⟩:=i9 e
 refine⟨ρ,x,er,e1,fun v H1 s1 r1=>?_⟩
 cases x with
 | obj k a ks ds =>
  have e':(if k=C+2 then xR ks ds f else none)=some d:=e
  split at e'
  ·rename_i hk
   subst hk
   obtain⟨xs,ev,⟨hl,dx,hH⟩,t⟩:=r1
   obtain⟨u,h1,h2⟩:=xA e' t hl
   exact⟨a,C,dx,_,u,ev,hH,c,n,h1,q u H1 s1 h2⟩
  ·cases e'
 | _=>cases e
theorem ir{x f:Str}{value:MJ}{g:R->OD}{C:Nat}{px pos':Pos}(i:Nat)(c:wA X.K C)(n:rA X.K C f)(he:SE X value g)(hN:X.N[i]?=some x:=by rfl)(hv:BS X.env.scope x:=by first | exact Or.inl rfl | exact Or.inr (Or.inl rfl) | exact Or.inr (Or.inr rfl))
  (hd:(x==("__debug__" : Str))=false:=by decide) (hcd:(x==("__classdict__" : Str))=false:=by decide) (hs:swapsWith value (some (.Attribute (.Name x px) f pos')) pos.line X.env=pure false:=by rfl):MS X (.Assign [.Attribute (.Name x px) f pos'] value pos) (vU i C f g):=fun S =>
 (nv (pv i hN hv hd hcd) he hs).imp fun E σ H ⟨ρ,τ,o,er,m,e,q⟩=>by
  obtain⟨d,e1,e⟩:=i9 e
  refine⟨ρ,d,er.1,e1,fun y H1 s1 ry=>?_⟩
  split at e
  case h_2=>cases e
  case h_1 k a ks ds hat =>
  split at e
  case isFalse=>cases e
  case isTrue hc =>
  obtain⟨rfl,h1,h2,h3,h4,h5,h6⟩:=hc
  cases e
  obtain⟨v,hσ,rv⟩:=(er.mono s1).1.at hat
  obtain⟨xs,ev,⟨hl,dx,hH⟩,t⟩:=rv
  subst ev
  have hdl:ds.length=xs.length:=t.length
  refine⟨.ref a,hσ,a,C,dx,_,rfl,hH,c,n,?_,?_⟩
  ·rw[List.length_zip];omega
  have ma:qN [a] H1:=fun b hb=>by rw[Mr.mp hb,hH];trivial
  generalize ho:HO.ins C dx (tT f y (ks.zip xs))=o'
  have kq:rH [a] H1 (upd H1 a o'):=fun b u nb eb=>by rw[ar fun z=>nb (by rw[z];exact Mr.mpr rfl)];exact eb
  obtain⟨vs',p1,p2,p3⟩:=zL (K:=X.K) (H':=upd H1 a o') (x:=f) (e:=d) (y:=y) (ks:=ks) (ds:=ds) (vs:=xs) hl hdl
  have rob:Rep X.K (upd H1 a o') (.obj (C+2) a (putD ks ds f d).1 (putD ks ds f d).2) (.ref a):=by
   refine⟨vs',rfl,⟨p2,dx,?_⟩,p3 (kg hH h5 t) (Rep.kq ma kq h1 ry)⟩
   rw[ay,<- ho,p1]
  have hin:=Ba h3
  have haS:a∈S:=hin a (M4 ..)
  have kqS:rH S H1 (upd H1 a o'):=kq.mono fun b hb=>by rw[Mr.mp hb];exact haS
  have m1:=m.same s1
  have mS:qN S (upd H1 a o'):=fun b hb=>by
   by_cases hba:b=a
   ·rw[hba,ay,<- ho];trivial
   ·rw[ar hba];exact m1 b hb
  exact q _ ((rH.of s1).trans kqS) mS σ (jo (er.mono s1) m1 kqS h2 hσ rob)
section
variable{pins:List (Ml×Obj)}{σ:L2.St}{H:Hp}{s:Mi}{a:Ml}{xs:List V}{its:List Mg}{n:Nat}
theorem Fi(I:L2.Inv X pins σ H s)(h:H a=some (.frz {cls:=.type "list",data:=.seq its.toArray n} (.own 0)))(r:m8 xs its)(z:xs.length<=sizeLine):L2.Inv X pins σ (upd H a (.lst xs)) s:=by
 have e:=(I.hok a _ h).1
 have:=I.write (t':=s.toks) (h':=s.heap) (o:=.lst xs) (x:=a) (e:=a) (by rw[h];trivial) (.inl rfl) (fun _ _ _ q=>q) ⟨_,e⟩ ⟨z,its,n,r,e⟩
 exact this
theorem B6(I:L2.Inv X pins σ H s)(h:H a=some (.lst xs)):∃(its:List Mg) (n:Nat),m8 xs its/\xs.length<=sizeLine/\L2.Inv X pins σ (upd H a (.frz {cls:=.type "list",data:=.seq its.toArray n} (.own 0))) s:=by
 obtain⟨z,its,n,r,e⟩:=I.hok a _ h
 have:=I.write (t':=s.toks) (h':=s.heap) (o:=.frz {cls:=.type "list",data:=.seq its.toArray n} (.own 0)) (x:=a) (e:=a) (by rw[h];trivial) (.inl rfl) (fun _ _ _ q=>q) ⟨_,e⟩ ⟨e,⟨_,e⟩⟩
 exact⟨its,n,r,z,this⟩
end
end
section
variable{K:Mj}{H H':Hp}
theorem k9.kqf(kq:∀{d:D} {v:V},qU d=true->Rep K H d v->Rep K H' d v):∀{ds:LD} {vs:List V},p8 ds=true->k9 K H ds vs->k9 K H' ds vs
 | [],_,_,r=>r
 | d::ds,_,h,r=>by
  have h':(qU d&&p8 ds)=true:=h
  rw[Mp] at h'
  obtain⟨v,vr,e,r1,r2⟩:=r
  exact⟨v,vr,e,kq h'.1 r1,k9.kqf kq h'.2 r2⟩
theorem ie{x:Str}{e e':D}{y:V}:∀{ks:List Str} {ds:LD} {vs:List V},xR ks ds x=some e->(ks.zip vs).lookup x=some y->k9 K H ds vs->ks.length=vs.length->p8 (putD ks ds x .non).2=true ->
  (∀{d:D} {v:V},qU d=true->Rep K H d v->Rep K H' d v)->Rep K H' e' y->(putD ks ds x e').1=ks/\k9 K H' (putD ks ds x e').2 vs
 | [],_,_,h,_,_,_,_,_,_=>by cases h
 | k::ks,[],_,h,_,_,_,_,_,_=>by cases h
 | k::ks,c::ds,vs,h,hl,r,hn,hb,kq,re=>by
  obtain⟨v,vr,rfl,r1,r2⟩:=r
  have h':(if k=x then some c else xR ks ds x)=some e:=h
  have hl':List.lookup x ((k,v)::ks.zip vr)=some y:=hl
  by_cases hx:k=x
  ·subst hx
   rw[putD,Mo rfl] at hb ⊢
   have hb':(qU D.non&&p8 ds)=true:=hb
   rw[Mp] at hb'
   have:v=y:=by simpa using hl'
   subst this
   exact⟨rfl,v,vr,rfl,re,k9.kqf kq hb'.2 r2⟩
  ·rw[Mx hx] at h'
   rw[putD,Mx hx] at hb ⊢
   have hb':(qU c&&p8 (putD ks ds x .non).2)=true:=hb
   rw[Mp] at hb'
   have hxk:(x==k)=false:=M8.mpr (Ne.symm hx)
   rw[List.lookup_cons,hxk] at hl'
   obtain⟨g1,g2⟩:=ie h' hl' r2 (by simpa using hn) hb'.2 kq re
   exact⟨by show k::(putD ks ds x e').1=_;rw[g1],v,vr,rfl,kq hb'.1 r1,g2⟩
end
theorem B8{i:Nat}{ρ:R}{d:D}(h:i5 i ρ=some d):ρ[i]?=some (some d):=by
 have h:ρ.getD i none=some d:=h
 rw[M2] at h
 cases e:ρ[i]? with
 | none=>rw[e] at h;cases h
 | some o=>rw[e] at h;cases o with | none=>cases h | some c=>cases h;rfl
theorem BU{a b:D}(h1:tU a=true)(h2:tU b=true)(h:adr a=adr b):sR a=sR b:=by
 cases a with
 | obj k x ks ds =>
  cases b with
  | obj k' y ks' ds'=>exact(List.cons.inj h).1
  | _=>cases h2
 | _=>cases h1
section
variable{X:Cx}{pos:Pos}
theorem pJ{x f:Str}{value:MJ}{g:R->OD}{C:Nat}{px pf ap cp:Pos}(i:Nat)(c:wA X.K C)(n:rA X.K C f)(he:SE X value g)(hN:X.N[i]?=some x:=by rfl)(hv:BS X.env.scope x:=by first | exact Or.inl rfl | exact Or.inr (Or.inl rfl) | exact Or.inr (Or.inr rfl))
  (hd:(x==("__debug__" : Str))=false:=by decide) (hcd:(x==("__classdict__" : Str))=false:=by decide) (hb1:attributeBase (.Name x px) f X.env (eval (.Name x px) X.env)=eval (.Name x px) X.env:=by rfl)
  (hbase:attributeBase (.Attribute (.Name x px) f pf) "append" X.env (eval (.Attribute (.Name x px) f pf) X.env)=eval (.Attribute (.Name x px) f pf) X.env:=by rfl) (hst:noStar value=true:=by rfl)
  (hline:(ap.endLine==cp.line)=true:=by rfl) (hs:swapsWith (.Call (.Attribute (.Attribute (.Name x px) f pf) "append" ap) [value] [] cp) none pos.line X.env=pure false:=by rfl) :
  MS X (.Expr (.Call (.Attribute (.Attribute (.Name x px) f pf) "append" ap) [value] [] cp) pos) (FD i C f g):=by
 intro S pins s σ H E I ⟨ρ,τ,o,er,m,e,q⟩
 obtain⟨d,e1,e⟩:=i9 e
 split at e
 case h_2=>cases e
 case h_1 k a ks ds hat =>
 split at e
 case h_2=>cases e
 case h_1 l ls es hkey =>
 split at e
 case isFalse=>cases e
 case isTrue hc =>
 obtain⟨rfl,h1,h2,h3,h4,h5,h6,h7⟩:=hc
 cases e
 have hst1:=aE [] X.env hst
 obtain⟨v,hσ,rv⟩:=er.1.at hat
 obtain⟨xs,ev,⟨hl,dx,hH⟩,t⟩:=rv
 subst ev
 obtain⟨y,hlk,ry⟩:=xA hkey t hl
 obtain⟨ys,ey,⟨hz,its,nn,rv,hL⟩,ty⟩:=ry
 subst ey
 refine wpAny_Expr_any (wpAny_Call_method_late hbase ?_ hline rfl (qW ((nL (pv i (pos:=px) hN hv hd hcd) hb1) pins s σ H (fun v H1=>v=.ref l/\H1=H) I ⟨.ref a,hσ,a,C,dx,_,.ref l,rfl,hH,c,n,hlk,rfl,rfl⟩) fun v s1 ⟨y,H1,I1,r1,ey,eH⟩=>?_)) I.quiet hs
 ·rw[hst1]
  rfl
 subst ey eH
 cases (show v=_ from r1)
 have eo:=(I1.hok l _ hL).1
 refine⟨"list","list.append",PySem.F.plainAttrs_list,PySem.F.slot_list_append,PySem.F.type_list_append,⟨_,eo,rfl⟩,fun b eb=>?_,?_⟩
 ·cases eb
  exact⟨_,eo,rfl⟩
 have hA:=(ac he af hst).1 cp pins s1 σ H1 (fun vs H2=>l0 H1 H2/\k9 X.K H2 [d] vs) I1 ⟨ρ,[d],er.1,by show(g ρ).bind _=_;rw[e1];rfl,fun vs H2 s2 r2=>⟨s2,r2⟩⟩
 rw[hst1] at hA ⊢
 refine Calls.callWith_builtin rfl (Calls.evalArgs_plain ?_)
 refine qW hA fun us s2 ⟨vs,H2,I2,r2,s12,rd⟩=>?_
 obtain⟨w,w',rfl,rw1,rw2⟩:=rd
 cases (show w'=[] from rw2)
 have hL2:=s12 _ _ hL
 have hH2:=s12 _ _ hH
 have I3:=Fi I2 hL2 rv hz
 have hys:es.length=ys.length:=ty.length
 refine qW (iX pins s2 σ (upd H2 l (.lst ys)) (.ref l) [w] (.ref l) us (fun v H3=>H3=upd (upd H2 l (.lst ys)) l (.lst (ys++[w]))) I3 rfl r2 ⟨l,ys,w,rfl,rfl,ay,by rw[<- hys,sizeLine_eq];omega,rfl⟩) fun v s3 ⟨v',H3,I4,_,e3⟩=>?_
 subst e3
 obtain⟨its',n',rv',hz',I5⟩:=B6 I4 ay
 generalize hH5:upd (upd (upd H2 l (.lst ys)) l (.lst (ys++[w]))) l (.frz {cls:=.type "list",data:=.seq its'.toArray n' } (.own 0))=H5 at I5
 have k25:rH [l] H2 H5:=fun b u nb eb=>by
  have hbl:b≠l:=fun z=>nb (by rw[z];exact Mr.mpr rfl)
  subst hH5
  rw[ar hbl,ar hbl,ar hbl];exact eb
 have hL5:H5 l=some (.frz {cls:=.type "list",data:=.seq its'.toArray n' } (.own 0)):=by subst hH5;exact ay
 have ml:qN [l] H2:=fun b hb=>by rw[Mr.mp hb,hL2];trivial
 have hla:a≠l:=fun z=>by rw[z,hL2] at hH2;cases hH2
 have hH5a:H5 a=some (.ins C dx (ks.zip xs)):=k25 a _ (fun z=>hla (Mr.mp z)) hH2
 have kq:∀{d:D} {v:V},qU d=true->Rep X.K H2 d v->Rep X.K H5 d v:=fun hn r=>Rep.kq ml k25 hn r
 have rl:Rep X.K H5 (.obj 0 l ls (es++[d])) (.ref l):=by
  refine⟨ys++[w],rfl,⟨hz',its',n',rv',hL5⟩,?_⟩
  exact k9.append (k9.kq ml k25 h5 (ty.mono s12)) (k9.one (kq h1 rw1))
 obtain⟨g1,g2⟩:=ie hkey hlk (t.mono s12) hl h6 kq rl
 have rob:Rep X.K H5 (.obj (C+2) a (putD ks ds f (.obj 0 l ls (es++[d]))).1 (putD ks ds f (.obj 0 l ls (es++[d]))).2) (.ref a):=by
  rw[g1]
  exact⟨xs,rfl,⟨hl,dx,hH5a⟩,g2⟩
 have hlS:l∈S:=by simpa using h7
 have kqS:rH S H2 H5:=k25.mono fun b hb=>by rw[Mr.mp hb];exact hlS
 have m2:=m.same s12
 have mS:qN S H5:=fun b hb=>by
  by_cases hbl:b=l
  ·rw[hbl,hL5];trivial
  ·have hm:=m2 b hb
   cases hb2:H2 b with
   | none=>rw[hb2] at hm;exact hm.elim
   | some u=>rw[k25 b u (fun z=>hbl (Mr.mp z)) hb2];rw[hb2] at hm;exact hm
 exact⟨σ,H5,I5,q H5 ((rH.of s12).trans kqS) mS σ (jo (er.mono s12) m2 kqS h2 hσ rob)⟩
structure Ck (P:Mv) (w:MH) (K:Mj) (mg:Str->Me Mg) (base:MI) (k:Nat) (x:Str) (ps:List Str) (j:Nat) (G:LD->Me (D×D)):Prop where
 ex:∃f fd,l7 P w K mg base q8 k f fd ps (CY K j G)/\mg x=some (.ref f)/\W.keepIn K (.ref f)=true/\Binds K fd ps []
structure u5 (P:Mv) (w:MH) (K:Mj) (mg:Str->Me Mg) (base:MI) (k C:Nat) (m:Str) (ps:List Str) (G:LD->Me (D×D)):Prop where
 ex:∃f fd,l7 P w K mg base q8 k f fd ps (CY K 0 G)/\zX K C m f/\Binds K fd ps []
structure yt (P:Mv) (w:MH) (K:Mj) (mg:Str->Me Mg) (base:MI) (k C:Nat) (m:Str) (ps:List Str) (G:LD->OD):Prop where
 ex:∃f fd,l7 P w K mg base q8 k f fd ps (rL K G)/\zX K C m f/\Binds K fd ps []
theorem Ck.m{P:Mv}{w:MH}{K:Mj}{mg:Str->Me Mg}{base:MI}{k k':Nat}{x:Str}{ps:List Str}{j:Nat}{G:LD->Me (D×D)}(h:Ck P w K mg base k x ps j G)(hk:k<=k':=by decide):Ck P w K mg base k' x ps j G:=by
 obtain⟨f,fd,a,b⟩:=h.ex
 exact⟨f,fd,a.mono hk,b⟩
theorem u5.m{P:Mv}{w:MH}{K:Mj}{mg:Str->Me Mg}{base:MI}{k k' C:Nat}{x:Str}{ps:List Str}{G:LD->Me (D×D)}(h:u5 P w K mg base k C x ps G)(hk:k<=k':=by decide):u5 P w K mg base k' C x ps G:=by
 obtain⟨f,fd,a,b⟩:=h.ex
 exact⟨f,fd,a.mono hk,b⟩
theorem yt.m{P:Mv}{w:MH}{K:Mj}{mg:Str->Me Mg}{base:MI}{k k' C:Nat}{x:Str}{ps:List Str}{G:LD->OD}(h:yt P w K mg base k C x ps G)(hk:k<=k':=by decide):yt P w K mg base k' C x ps G:=by
 obtain⟨f,fd,a,b⟩:=h.ex
 exact⟨f,fd,a.mono hk,b⟩
theorem fv{P:Mv}{w:MH}{K:Mj}{mg:Str->Me Mg}{base:MI}{x qual:Str}{st:ML}{f:Ml}{fd:Nl}{N ps:List Str}{k j:Nat}{g:MU}
  (Fn:rJ K x qual st f fd) (Sc:k4 N ps (i6 st))
  (hb:∀(cdv:Mg) (A:MQ) (outer:List Env) (s:Mi) (H:Hp) (E:XK),ri k (A.deeper (envOfC qual (i6 st) s.heap.objs.size f cdv))->Cd (yo q8 P w K mg base N qual (i6 st) f cdv A outer s H E).nox (rG st) g) :
  l7 P w K mg base q8 (k+1) f fd ps (CY K j (Am ps.length N.length j g)):=by
 refine Fn.ok Sc (fun vs H Q E h=>?_) (fun cdv A outer s H vs Q E hr h=>?_)
 ·obtain⟨ds,ob,d,o',r,hj,ho,e,_⟩:=h
  rw[<- r.length]
  unfold Am at e
  split at e
  ·assumption
  ·cases e
 ·obtain⟨ds,ob,d,o',r,hj,ho,e,q⟩:=h
  unfold Am at e
  split at e
  case isFalse=>cases e
  case isTrue hlen =>
  rw[hj,Mn,Mo ho] at e
  obtain⟨mo,e1,e⟩:=i9 e
  obtain⟨v,hv,rv⟩:=r.get hj
  have ms:=xw rv
  refine⟨_,hb cdv A outer s H E hr (adr ob),xk N.length ds,_,mo,(za r).t,ms,e1,fun H1 k1 m1=>?_⟩
  cases mo with
  | rt d' ρ =>
   intro v rv ob1
   obtain⟨ob',e2,e⟩:=i9 e
   split at e
   ·rename_i hc
    obtain⟨rfl,rfl⟩:d'=d/\ob'=o':=by simpa using e
    have hat:ρ[j]?=some (some ob'):=B8 e2
    have rr:=ob1 j ob' hat hc.1
    have ha:sR ob'=sR ob:=BU hc.1 ho hc.2
    rw[ha] at rr
    exact q v H1 k1 m1 rv rr
   ·cases e
  | nx ρ =>
   intro σ' er'
   obtain⟨ob',e2,e⟩:=i9 e
   split at e
   ·rename_i hc
    obtain⟨rfl,rfl⟩:D.non=d/\ob'=o':=by simpa using e
    have hat:ρ[j]?=some (some ob'):=B8 e2
    have rr:=(Ie.of er'.1) j ob' hat hc.1
    have ha:sR ob'=sR ob:=BU hc.1 ho hc.2
    rw[ha] at rr
    exact q .non H1 k1 m1 rfl rr
   ·cases e
end
section
variable{X:Cx}{pos:Pos}
theorem Bg{K:Mj}{S:List Nat}{H H1 H2:Hp}{ρ:R}{σ τ:L2.St}{i:Nat}{ob o':D}(er:qP K H ρ τ σ)(m:qN S H)(hat:i5 i ρ=some ob)(ho:tU ob=true)(hn:rS i ρ=true)(hin:zv S (adr ob)=true)(s1:l0 H H1)(kq:rH (adr ob) H1 H2)(m2:qN (adr ob) H2)
  (r:Rep K H2 o' (.ref (sR ob))):rH S H H2/\qN S H2/\qP K H2 (ρ.set i (some o')) τ σ:=by
 have sub:=Ba hin
 have kS:rH S H1 H2:=kq.mono sub
 have m1:=m.same s1
 have mS:qN S H2:=fun b hb=>by
  by_cases hba:b∈adr ob
  ·exact m2 b hba
  ·have hm:=m1 b hb
   cases e:H1 b with
   | none=>rw[e] at hm;exact hm.elim
   | some u=>rw[kq b u hba e];rw[e] at hm;exact hm
 obtain⟨v,hσ,rv⟩:=(er.mono s1).1.at hat
 rw[fV ho rv] at hσ
 exact⟨(rH.of s1).trans kS,mS,jo (er.mono s1) m1 kS hn hσ r⟩
variable{x:Str}{e:MJ}{es:List MJ}{F:R->Me LD}{G:LD->Me (D×D)}{k j:Nat}{ps:List Str}{p:Pos}
theorem Jg{i:Nat}{F:R->Me LD}:∀ ρ ds ob,i4 (i5 i) F ρ=some ds->i5 i ρ=some ob->ds[0]?=some ob:=fun ρ ds ob h1 h2=>by
 obtain⟨d,e1,e2⟩:=i9 h1
 obtain⟨r,_,rfl⟩:=rm e2
 rw[h2] at e1;cases e1;rfl
theorem Ai{F:R->Me LD}{G:LD->Me (D×D)}{S:List Nat}{i C:Nat}{mn:Str}{ρ ρ':R}{σ τ:L2.St}{H:Hp}{d:D}{Q:VK}(er:qP X.K H ρ τ σ)(m:qN S H)(e:ui i C mn G F S ρ=some (d,ρ'))
  (q:∀v H',rH S H H'->qN S H'->Rep X.K H' d v->qP X.K H' ρ' τ σ->Q v H'):DR C mn (CY X.K 0 G) [] E0 (HB i) (HU X.K F) σ H Q:=by
 obtain⟨ob,hat,z1⟩:=i9 e
 obtain⟨ds,e1,z2⟩:=i9 z1
 obtain⟨r,e2,z3⟩:=i9 z2
 clear e z1 z2
 match ob,z3 with
 | .obj kk a ks es',z3 =>
  have z4:(if kk=C+2/\ks.contains mn=false/\rS i ρ=true/\zv S (adr (.obj kk a ks es'))=true then some (r.1,ρ.set i (some r.2)) else none)=some (d,ρ'):=z3
  split at z4
  case isFalse=>cases z4
  case isTrue hc =>
  obtain⟨rfl,hk,hn,hin⟩:=hc
  obtain⟨rfl,rfl⟩:r.1=d/\ρ.set i (some r.2)=ρ':=by simpa using z4
  obtain⟨v,hσ,rv⟩:=er.1.at hat
  have rv':=rv
  obtain⟨xs,ev,⟨hl,dx,hH⟩,t⟩:=rv
  subst ev
  refine⟨.ref a,hσ,a,dx,_,rfl,hH,x5 hk,ρ,ds,er.1,e1,fun vs H1 s1 r1=>?_⟩
  show CY X.K 0 G (.ref a::(vs++[])) H1 Q E0
  rw[M5]
  refine⟨.obj (C+2) a ks es'::ds,_,r.1,r.2,⟨_,vs,rfl,rv'.mono s1,r1⟩,rfl,rfl,e2,fun v H2 kq m2 rd ro=>?_⟩
  obtain⟨aa,b,c⟩:=Bg er m hat rfl hn hin s1 kq m2 ro
  exact q v H2 aa b rd c
variable{C:Nat}{mn:Str}{apos:Pos}
theorem lq (i:Nat) (c:wA X.K C) (M:u5 X.prog X.w X.K X.mg X.base k C mn ps G) (hr:ri k X.A) (ha:SA X (e::es) F) {px pos':Pos} (hN:X.N[i]?=some x:=by rfl) (hv:BS X.env.scope x:=by first | exact Or.inl rfl | exact Or.inr (Or.inl rfl) | exact Or.inr (Or.inr rfl))
    (hd:(x==("__debug__" : Str))=false:=by decide) (hcd:(x==("__classdict__" : Str))=false:=by decide) {pl:Sem Bool}
    (ht:eval (.Call (.Attribute (.Name x px) mn apos) (e::es) [] pos) X.env=(do
      let ov <- eval (.Name x px) X.env
      standAt apos.atName
      let (f,first) <- holding [ov] (getMethod ov mn pl)
      callWith pos f first (backTo pos (starEach (e::es) X.env)) (backToKw pos (keywordEach [] X.env))):=by rfl)
    (hs:swapsWith (.Call (.Attribute (.Name x px) mn apos) (e::es) [] pos) none pos'.line X.env=pure false:=by rfl):MS X (.Expr (.Call (.Attribute (.Name x px) mn apos) (e::es) [] pos) pos') (B7 (ui i C mn G F)):=by
  have hst:=ha.2.2
  rw[Ng,Mp] at hst
  have he:=aE es X.env hst.1
  have hpl:=cu (pos:=pos) (env:=X.env) hst.2
  obtain⟨f,fd,a,hm,bd⟩:=M.ex
  refine fun S=>(oR (lV (pv i hN hv hd hcd) c hm a hr bd .nil wZ ha.1 he hpl ht) hs).imp fun E σ H ⟨ρ,τ,o,er,m,e,q⟩=>?_
  obtain⟨r,e1,rfl⟩:=rm e
  exact Ai er m e1 fun v H' kq mS _ er'=>q H' kq mS σ er'
theorem jA (i:Nat) (c:wA X.K C) (M:u5 X.prog X.w X.K X.mg X.base k C mn ps G) (hr:ri k X.A) (ha:SA X (e::es) F) {px pos':Pos} (hN:X.N[i]?=some x:=by rfl) (hv:BS X.env.scope x:=by first | exact Or.inl rfl | exact Or.inr (Or.inl rfl) | exact Or.inr (Or.inr rfl))
    (hd:(x==("__debug__" : Str))=false:=by decide) (hcd:(x==("__classdict__" : Str))=false:=by decide) {pl:Sem Bool}
    (ht:eval (.Call (.Attribute (.Name x px) mn apos) (e::es) [] pos) X.env=(do
      let ov <- eval (.Name x px) X.env
      standAt apos.atName
      let (f,first) <- holding [ov] (getMethod ov mn pl)
      callWith pos f first (backTo pos (starEach (e::es) X.env)) (backToKw pos (keywordEach [] X.env))):=by rfl):MS X (.Return (some (.Call (.Attribute (.Name x px) mn apos) (e::es) [] pos)) pos') (y6 (ui i C mn G F)):=by
  have hst:=ha.2.2
  rw[Ng,Mp] at hst
  have he:=aE es X.env hst.1
  have hpl:=cu (pos:=pos) (env:=X.env) hst.2
  obtain⟨f,fd,a,hm,bd⟩:=M.ex
  refine fun S=>(lB (lV (pv i hN hv hd hcd) c hm a hr bd .nil wZ ha.1 he hpl ht)).imp fun E σ H ⟨ρ,τ,o,er,m,e,q⟩=>?_
  obtain⟨r,e1,rfl⟩:=rm e
  exact Ai er m e1 fun v H' kq mS rd er'=>q H' kq mS v rd (Ie.of er'.1)
theorem jM {a:MJ} {f:R->OD} {G:LD->OD} (c:wA X.K C) (M:yt X.prog X.w X.K X.mg X.base k C mn ps G) (hr:ri k X.A) (ha:SE X a f) {pl:Sem Bool}
    (ht:eval (.Call (.Attribute a mn apos) [] [] pos) X.env=(do
      let ov <- eval a X.env
      standAt apos.atName
      let (f,first) <- holding [ov] (getMethod ov mn pl)
      callWith pos f first (backTo pos (starEach [] X.env)) (backToKw pos (keywordEach [] X.env))):=by rfl):SE X (.Call (.Attribute a mn apos) [] [] pos) (Dp C mn G f i7):=by
  obtain⟨fa,fd,F,hm,bd⟩:=M.ex
  refine(nu ha c hm F hr bd .nil wZ ht).imp fun σ H Q ⟨ρ,d,er,e,q⟩=>?_
  obtain⟨ob,e1,z1⟩:=i9 e
  obtain⟨ds,e2,z2⟩:=i9 z1
  cases e2
  refine⟨ρ,ob,er,e1,fun v H1 s1 r1=>?_⟩
  clear e z1
  match ob,z2,r1 with
  | .obj kk a ks es',z2,r1 =>
    have e:(if kk=C+2/\ks.contains mn=false then G [.obj kk a ks es'] else none)=some d:=z2
    split at e
    case isFalse=>cases e
    case isTrue hc =>
    obtain⟨rfl,hk⟩:=hc
    have r1':=r1
    obtain⟨xs,ev,⟨hl,dx,hH⟩,t⟩:=r1
    subst ev
    exact⟨a,dx,_,rfl,hH,x5 hk,⟨[.obj (C+2) a ks es'],d,⟨_,[],rfl,r1',rfl⟩,e,fun u H2 s2 r2=>q u H2 (s1.trans s2) r2⟩⟩
end
theorem B0{N C:Nat}{f:Str}{g:MU}{ds:LD}{a l:Nat}{ob:D}(h:uZ N C f g ds a l=some ob):∃ ρ ks es,g [a] (xk N (.obj (C+2) a [] []::ds))=some (.nx ρ)/\i5 0 ρ=some (.obj (C+2) a ks es)/\p8 es=true/\ks.length<100/\ob=.obj (C+2) a (putD ks es f (.obj 0 l [] [])).1 (putD ks es f (.obj 0 l [] [])).2:=by
 obtain⟨mo,e1,e⟩:=i9 h
 match mo,e1,e with
 | .rt d ρ,e1,e=>cases e
 | .nx ρ,e1,e =>
  have e':(match i5 0 ρ with | some (.obj k b ks es)=>if k=C+2/\b=a/\p8 es=true/\ks.length<100 then some (D.obj k b (putD ks es f (.obj 0 l [] [])).1 (putD ks es f (.obj 0 l [] [])).2) else none | _=>none)=some ob:=e
  cases hat:i5 0 ρ with
  | none=>rw[hat] at e';cases e'
  | some obx =>
   rw[hat] at e'
   cases obx with
   | obj kk b ks es =>
    dsimp only at e'
    split at e'
    case isFalse=>cases e'
    case isTrue hc =>
    obtain⟨rfl,rfl,hn,hk⟩:=hc
    cases e'
    exact⟨ρ,ks,es,e1,hat,hn,hk,rfl⟩
   | _=>cases e'
theorem CH{N C:Nat}{f:Str}{g:MU}{ds:LD}{a l:Nat}{ob:D}(h:uZ N C f g ds a l=some ob)(l':Nat):(uZ N C f g ds a l').isSome=true:=by
 obtain⟨ρ,ks,es,e1,hat,hn,hk,_⟩:=B0 h
 have:uZ N C f g ds a l'=some (.obj (C+2) a (putD ks es f (.obj 0 l' [] [])).1 (putD ks es f (.obj 0 l' [] [])).2):=by
  show(g [a] (xk N (.obj (C+2) a [] []::ds))).bind _=_
  rw[e1,Mn]
  show(match i5 0 ρ with | some (.obj k b ks es)=>if k=C+2/\b=a/\p8 es=true/\ks.length<100 then some (D.obj k b (putD ks es f (.obj 0 l' [] [])).1 (putD ks es f (.obj 0 l' [] [])).2) else none | _=>none)=_
  rw[hat]
  exact Mo ⟨rfl,rfl,hn,hk⟩
 rw[this];rfl
theorem jb{es:LD}(h:p8 es=true):es.flatMap ut=[]:=by
 induction es with
 | nil=>rfl
 | cons d es ih =>
  have h':(qU d&&p8 es)=true:=h
  rw[Mp] at h'
  show ut d++es.flatMap ut=[]
  rw[kP h'.1,ih h'.2];rfl
theorem ku{x:Str}{l:Nat}:∀{ks:List Str} {ds:LD},p8 ds=true->(putD ks ds x (.obj 0 l [] [])).2.flatMap ut=[l]
 | [],ds,h=>by
  have:(putD [] ds x (.obj 0 l [] [])).2=ds++[.obj 0 l [] []]:=by cases ds<;>rfl
  rw[this,List.flatMap_append,jb h];rfl
 | k::ks,[],h=>rfl
 | k::ks,c::ds,h=>by
  have h':(qU c&&p8 ds)=true:=h
  rw[Mp] at h'
  by_cases hx:k=x
  ·rw[putD,Mo hx]
   show [l]++ds.flatMap ut=[l]
   rw[jb h'.2];rfl
  ·rw[putD,Mx hx]
   show ut c++(putD ks ds x (.obj 0 l [] [])).2.flatMap ut=[l]
   rw[kP h'.1,ku h'.2];rfl
theorem Es{N C:Nat}{f:Str}{g:MU}{ds:LD}{a l:Nat}{ob:D}(h:uZ N C f g ds a l=some ob):adr ob=[a,l]:=by
 obtain⟨ρ,ks,es,_,_,hn,_,rfl⟩:=B0 h
 show a::_=_
 rw[ku hn]
section
variable{X:Cx}{pos:Pos}{C:Nat}{f:Str}
def KS(K:Mj)(C i:Nat)(f:Str)(g:MU):TS:=fun E σ H=>∃ ρ τ a ρ' ks es,qP K H ρ τ σ/\qN [a] H/\g [a] ρ=some (.nx ρ')/\i5 i ρ'=some (.obj (C+2) a ks es)/\p8 es=true/\ks.length<100 /\
 ∀ σ' l H',H l=none->rH [a] H H'->Rep K H' (.obj (C+2) a (putD ks es f (.obj 0 l [] [])).1 (putD ks es f (.obj 0 l [] [])).2) (.ref a)->E.nx σ' H'
def IB(X:Cx)(C i:Nat)(f:Str)(sts:List ML)(g:MU):Prop:=PSs X sts (KS X.K C i f g)
theorem Fv{x:Str}{px pos' p1:Pos}(i:Nat)(c:wA X.K C)(n:rA X.K C f)(hN:X.N[i]?=some x:=by rfl)(hv:BS X.env.scope x:=by first | exact Or.inl rfl | exact Or.inr (Or.inl rfl) | exact Or.inr (Or.inr rfl))
  (hd:(x==("__debug__" : Str))=false:=by decide) (hcd:(x==("__classdict__" : Str))=false:=by decide) (hs:swapsWith (.List [] p1) (some (.Attribute (.Name x px) f pos')) pos.line X.env=pure false:=by rfl):IB X C i f [.Assign [.Attribute (.Name x px) f pos'] (.List [] p1) pos] uR:=by
 refine eP (t:=KS X.K C i f uR) ?_
 intro pins s σ H E I ⟨ρ,τ,a,ρ',ks,es,er,m,e,hat,hn,hk,q⟩
 cases e
 obtain⟨v,hσ,rv⟩:=er.1.at hat
 obtain⟨xs,ev,⟨hl,dx,hH⟩,t⟩:=rv
 subst ev
 have hdl:es.length=xs.length:=t.length
 refine qW ((nv (pv i hN hv hd hcd) (kY (pos:=p1) DT) hs) pins s σ H {E with nx:=fun σ' H'=>∃l,H l=none/\H'=upd (upd H l (.lst [])) a (.ins C dx (tT f (.ref l) (ks.zip xs)))} I ?_) fun fl s1 z=>?_
 ·refine⟨M_ _,fun l hl0=>⟨.ref a,hσ,a,C,dx,ks.zip xs,rfl,?_,c,n,?_,l,hl0,rfl⟩⟩
  ·rw[ar (rq hH hl0)];exact hH
  ·rw[List.length_zip];omega
 cases fl with
 | next =>
  obtain⟨σ',H',I',l,hl0,rfl⟩:=z
  have hal:a≠l:=rq hH hl0
  have hLl:(upd (upd H l (.lst [])) a (.ins C dx (tT f (.ref l) (ks.zip xs)))) l=some (.lst []):=by rw[ar (Ne.symm hal),ay]
  obtain⟨its,nn,rv',hz',I5⟩:=B6 I' hLl
  generalize hH5:upd (upd (upd H l (.lst [])) a (.ins C dx (tT f (.ref l) (ks.zip xs)))) l (.frz {cls:=.type "list",data:=.seq its.toArray nn} (.own 0))=H5 at I5
  have kq:rH [a] H H5:=fun b u nb eb=>by
   have hba:b≠a:=fun z=>nb (by rw[z];exact Mr.mpr rfl)
   have hbl:b≠l:=rq eb hl0
   subst hH5
   rw[ar hbl,ar hba,ar hbl];exact eb
  have h5l:H5 l=some (.frz {cls:=.type "list",data:=.seq its.toArray nn} (.own 0)):=by subst hH5;exact ay
  have h5a:H5 a=some (.ins C dx (tT f (.ref l) (ks.zip xs))):=by subst hH5;rw[ar hal,ay]
  obtain⟨vs',p1',p2,p3⟩:=zL (K:=X.K) (H':=H5) (x:=f) (e:=.obj 0 l [] []) (y:=.ref l) (ks:=ks) (ds:=es) (vs:=xs) hl hdl
  refine⟨σ',H5,I5,q σ' l H5 hl0 kq ⟨vs',rfl,⟨p2,dx,?_⟩,p3 (k9.kq m kq hn t) ⟨[],rfl,⟨hz',its,nn,rv',h5l⟩,rfl⟩⟩⟩
  rw[h5a,p1']
 | brk=>exact z
 | cont=>exact z
 | ret v=>exact z
theorem zp{st:ML}{sts:List ML}{u g:MU}{i:Nat}(h1:MS X st u)(h2:IB X C i f sts g):IB X C i f (st::sts) (vW u g):=by
 intro pins s σ H E I ⟨ρ,τ,a,ρ',ks,es,er,m,e,hat,hn,hk,q⟩
 obtain⟨o1,e1,e⟩:=i9 e
 cases o1 with
 | rt d ρ2=>cases e
 | nx ρ2 =>
  refine wpAny_execs_cons (qW (h1 [a] pins s σ H {E with nx:=KS X.K C i f g E} I ⟨ρ,τ,.nx ρ2,er,m,e1,fun H1 k1 m1 σ2 er2=>⟨ρ2,τ,a,ρ',ks,es,er2,m1,e,hat,hn,hk,fun σ' l H' hl kq r=>q σ' l H' ?_ (k1.trans kq) r⟩⟩) fun fl s1 z=>?_)
  ·cases hb:H l with
   | none=>rfl
   | some b =>
    by_cases hla:l=a
    ·have:=m1 a (Mr.mpr rfl)
     rw[<- hla,hl] at this
     exact this.elim
    ·rw[k1 l b (fun z=>hla (Mr.mp z)) hb] at hl
     cases hl
  cases fl with
  | next =>
   obtain⟨σ',H',I',z⟩:=z
   exact h2 pins s1 σ' H' E I' z
  | brk=>exact z
  | cont=>exact z
  | ret v=>exact z
def HV(K:Mj)(n N C:Nat)(f:Str)(g:MU):Sp:=fun vs H Q _=>∃a ds,ds.length+1=n/\k9 K H (.obj (C+2) a [] []::ds) vs/\(∀l,(uZ N C f g ds a l).isSome=true)/\∀l ob H',H l=none->uZ N C f g ds a l=some ob->rH [a] H H'->Rep K H' ob (.ref a)->Q .non H'
theorem FR{P:Mv}{w:MH}{K:Mj}{mg:Str->Me Mg}{base:MI}{x qual:Str}{st:ML}{fa:Ml}{fd:Nl}{N ps:List Str}{k:Nat}{g:MU}
  (Fn:rJ K x qual st fa fd) (Sc:k4 N ps (i6 st)) 
  (hb:∀(cdv:Mg) (A:MQ) (outer:List Env) (s:Mi) (H:Hp) (E:XK),ri k (A.deeper (envOfC qual (i6 st) s.heap.objs.size fa cdv))->IB (yo q8 P w K mg base N qual (i6 st) fa cdv A outer s H E).nox C 0 f (rG st) g) :
  l7 P w K mg base q8 (k+1) fa fd ps (HV K ps.length N.length C f g):=by
 refine Fn.ok Sc (fun vs H Q E ⟨a,ds,hn,r,_⟩=>by rw[<- hn,<- r.length];rfl) (fun cdv A outer s H vs Q E hr h=>?_)
 obtain⟨a,ds,_,r,hs,q⟩:=h
 have h0:=hs 0
 obtain⟨ob0,e0⟩:=Option.isSome_iff_exists.mp h0
 obtain⟨mo,e1,e⟩:=i9 (show(g [a] (xk N.length (.obj (C+2) a [] []::ds))).bind _=some ob0 from e0)
 match mo,e1,e with
 | .nx ρ',e1,e =>
  have e':(match i5 0 ρ' with | some (.obj k b ks es)=>if k=C+2/\b=a/\p8 es=true/\ks.length<100 then some (D.obj k b (putD ks es f (.obj 0 0 [] [])).1 (putD ks es f (.obj 0 0 [] [])).2) else none | _=>none)=some ob0:=e
  cases hat:i5 0 ρ' with
  | none=>rw[hat] at e';cases e'
  | some obx =>
   rw[hat] at e'
   cases obx with
   | obj kk b ks es =>
    dsimp only at e'
    split at e'
    case isFalse=>cases e'
    case isTrue hc =>
    obtain⟨rfl,rfl,hn,hk⟩:=hc
    obtain⟨v,vr,ev,r1,r2⟩:=r
    have r':k9 K H (.obj (C+2) b [] []::ds) vs:=⟨v,vr,ev,r1,r2⟩
    have ms:qN [b] H:=fun c hcb=>by
     have:=xw r1 c
     exact this (by simpa [adr] using hcb)
    refine⟨_,hb cdv A outer s H E hr,xk N.length (.obj (C+2) b [] []::ds),_,b,ρ',ks,es,(za r').t,ms,e1,hat,hn,hk,fun σ' l H' hl kq rr=>?_⟩
    refine q l _ H' hl ?_ kq rr
    show(g [b] (xk N.length (.obj (C+2) b [] []::ds))).bind _=_
    rw[e1,Mn]
    show(match i5 0 ρ' with | some (.obj k b2 ks es)=>if k=C+2/\b2=b/\p8 es=true/\ks.length<100 then some (D.obj k b2 (putD ks es f (.obj 0 l [] [])).1 (putD ks es f (.obj 0 l [] [])).2) else none | _=>none)=_
    rw[hat]
    exact Mo ⟨rfl,rfl,hn,hk⟩
   | _=>cases e'
 | .rt d ρ',e1,e=>cases e
end
theorem vd(ns:List Int):∀j,j<=ns.length->preSum (fun i=>ns.getD i 0) j=(ns.take j).sum
 | 0,_=>rfl
 | j+1,h=>by
  show preSum (fun i=>ns.getD i 0) j+ns.getD j 0=_
  have hj:j<ns.length:=h
  have e:ns.take (j+1)=ns.take j++[ns[j]]:=by rw[List.take_succ_eq_append_getElem hj]
  rw[vd ns j (by omega),e,List.sum_append,M2]
  simp[hj]
theorem D9:∀ns:List Int,ns.all (fun n=>decide (0<=n/\n<1099511627776))=true->0<=ns.sum/\ns.sum<=1099511627776*(ns.length:Int)
 | [],_=>⟨by decide,by decide⟩
 | n::ns,h=>by
  rw[Ng,Mp] at h
  obtain⟨a,b⟩:=D9 ns h.2
  have:=Nm h.1
  rw[List.sum_cons,Nd]
  constructor<;>omega
section
variable{X:Cx}
theorem pO{e:MJ}{f:R->OD}{p pos:Pos}(hc:X.calm=true)(hm:X.mg "sum" = none)(he:SE X e f)(hg:Gl X "sum":=by rfl)(hst:noStar e=true:=by rfl) :
  SE X (.Call (.Name "sum" p) [e] [] pos) (i8 EO (i4 f i7)):=by
 intro pins s σ H Q I ⟨ρ,d,er,eq,q⟩
 obtain⟨ds,e1,e2⟩:=i9 eq
 have hst1:=aE [] X.env hst
 have PAA:=(ac he af hst).1 pos pins s σ H (fun vs H2=>l0 H H2/\k9 X.K H2 ds vs) I ⟨ρ,ds,er,e1,fun vs H2 s2 r2=>⟨s2,r2⟩⟩
 refine Call_ (cT I hg hm boot_sum ?_)
 rw[hst1] at PAA ⊢
 refine Calls.callWith_builtin rfl (Calls.evalArgs_plain ?_)
 refine qW PAA fun us s1 ⟨vs,H1,I1,r1,s01,rp⟩=>?_
 match ds,e2 with
 | [.lst es],e2 =>
  obtain⟨ns,e3,e4⟩:=i9 (show(intsOf es).bind _=some d from e2)
  split at e4
  case isFalse=>cases e4
  case isTrue hn =>
  cases e4
  obtain⟨v,r',rfl,⟨a,xs,rfl,ha,rx⟩,rr⟩:=rp
  cases (show r'=[] from rr)
  obtain⟨u,rfl,ru⟩:=r1.one
  cases (show u=_ from ru)
  obtain⟨_,its,n,rv,hl,eo⟩:=I1.lstM ha
  have hI:=cI e3 rx rv
  have hlen:its.length=ns.length:=IntsAre.length hI
  have hh:=I1.ok.hd hc
  have hL:s1.heap.IsList a its.toArray:=⟨_,eo,rfl,n,rfl⟩
  have hlt:a<s1.heap.objs.size:=MD eo
  refine call_sum_walk (wpAny_pyIter_list hL ?_)
  generalize hIe:s1.heap.objs.size=J at hlt
  have hne:a≠J:=MM hlt
  refine⟨J,[J,a],[J],its.toArray.size,_,_,fun i=>ns.getD i 0,rfl,Walks.list (prog:=X.prog) (w:=X.w) (A:=X.A.in1) (show X.A.in1.handled=none from hh) J a hne its.toArray,?_,fun b hb=>?_,fun i v hv=>?_,fun j hj=>?_,fun h' tk t' k=>?_⟩
  ·refine⟨by rw[<- hIe];exact⟨_,Mq _ rfl,rfl,rfl⟩,hL.at fun o e=>Mh _ e⟩
  ·rw[Heap.size_push,hIe]
   rcases Mu.mp hb with rfl | hb
   ·exact Nv _
   ·rw[Mr.mp hb];exact Nat.lt_succ_of_lt hlt
  ·exact IntsAre.int_at hI i v (by simpa using hv)
  ·have hj':j<ns.length:=by rw[Mz,hlen] at hj;exact hj
   have hall:=hn.2
   have b1:ns.getD j 0∈ns:=by rw[M2];simp[hj']
   have b2:=Nm (M3.mp hall _ b1)
   have b3:=D9 (ns.take (j+1)) (M3.mpr fun x hx=>M3.mp hall x (List.mem_of_mem_take hx))
   rw[vd ns (j+1) (by omega)]
   have b4:(ns.take (j+1)).length<=1000:=by rw[NB];omega
   refine⟨⟨by show -(2 ^ 63)<=ns.getD j 0;omega,by show ns.getD j 0<2 ^ 63;omega⟩,by omega,by omega⟩
  ·have hs:preSum (fun i=>ns.getD i 0) its.toArray.size=ns.sum:=by
    rw[Mz,hlen,vd ns _ (Mw _),List.take_length]
   rw[hs]
   refine⟨.int ns.sum,H1,I1.kept fun b o eb=>k b o (fun z=>?_) (Mh _ eb),⟨_,rfl⟩,q _ H1 s01 rfl⟩
   rw[Mr.mp z,<- hIe] at eb
   exact MY (MD eb) (Ni _)
end
def EH(K:Mj)(C:Ml)(m q:Str)(st:ML)(f:Ml):Prop:=∃(oc:Mg) (od an:Me Ml) (sl:Array (Me Mg)) (kV dc pm cd ct:Mg),W.findIn K (.ref C) m=some (some (.ref f))/\W.isFn K (.ref f)=true /\
 K.lookup f=some ⟨oc,od,.func (W.fnOf m q (sN st) (rG st) (i6 st) .none kV dc pm an cd ct),sl⟩/\W.codeIn K cd q=true/\W.keepIn K (.ref f)=true
theorem Gn{K:Mj}{C:Ml}{m q:Str}{st:ML}{f:Ml}(h:EH K C m q st f):∃fd,rJ K m q st f fd/\zX K C m f:=by
 obtain⟨oc,od,an,sl,kV,dc,pm,cd,ct,a,i,l,c,k⟩:=h
 exact⟨_,lL l c k,a,i,k⟩
theorem fn5_mk{K:Mj}{C:Ml}{m q:Str}{st:ML}{f:Ml}{oc:Mg}{od an:Me Ml}{sl:Array (Me Mg)}{kV dc pm cd ct:Mg}(a:W.findIn K (.ref C) m=some (some (.ref f)))(i:W.isFn K (.ref f)=true)
  (l:K.lookup f=some ⟨oc,od,.func (W.fnOf m q (sN st) (rG st) (i6 st) .none kV dc pm an cd ct),sl⟩) (c:W.codeIn K cd q=true) (k:W.keepIn K (.ref f)=true):EH K C m q st f:=⟨oc,od,an,sl,kV,dc,pm,cd,ct,a,i,l,c,k⟩
theorem Hs{K:Mj}{F G:LD->OD}(h:∀ds d,F ds=some d->G ds=some d):∀vs H Q E,rL K F vs H Q E->rL K G vs H Q E:=fun _ _ _ _ ⟨ds,d,r,e,q⟩=>⟨ds,d,r,h ds d e,q⟩
end HW
namespace HW
open PySem
def sepE(A:List Nat):D->Bool
 | .obj _ a _ es=>(a::es.flatMap ut).all (fun x=>!A.contains x)&&es.all okN
 | .rf _=>true
 | d=>qU d
def vB(A:List Nat):OD->Bool
 | some (.lst ds)=>ds.all (sepE A)
 | some d=>sepE A d
 | none=>true
def zh(i:Nat)(A:List Nat)(ρ:R):Bool:=(ρ.set i none).all (vB A)
def As(i:Nat)(G:LD->Me (D×D))(F:R->Me LD)(S:List Nat)(ρ:R):Me (D×R):=(i5 i ρ).bind fun ob=>(F ρ).bind fun ds=>(G ds).bind fun r =>
 if tU ob=true/\zh i (adr ob) ρ=true/\zv S (adr ob)=true then some (r.1,ρ.set i (some r.2)) else none
def Lm(i:Nat)(C:Nat)(m:Str)(G:LD->Me (D×D))(F:R->Me LD)(S:List Nat)(ρ:R):Me (D×R):=(i5 i ρ).bind fun ob=>(F ρ).bind fun ds=>(G (ob::ds)).bind fun r =>
 match ob with
 | .obj k a ks es=>if k=C+2/\ks.contains m=false/\zh i (a::es.flatMap ut) ρ=true/\zv S (a::es.flatMap ut)=true then some (r.1,ρ.set i (some r.2)) else none
 | _=>none
def GZ(i j:Nat)(mk:LD->Nat->Nat->OD)(ds ds':LD)(w:MU)(ρ:R)(r:D):Prop:=∀a l a' l',[a,l,a',l'].Nodup->∃ob ob' ρ',mk ds a l=some ob/\mk ds' a' l'=some ob'/\w [a,l,a',l'] ((ρ.set i (some ob)).set j (some ob'))=some (.rt r ρ')
theorem GZ.uniq{i j:Nat}{mk:LD->Nat->Nat->OD}{ds ds':LD}{w:MU}{ρ:R}{r r':D}(h:GZ i j mk ds ds' w ρ r)(h':GZ i j mk ds ds' w ρ r'):r=r':=by
 obtain⟨ob,ob',ρ1,e1,e2,e3⟩:=h 0 1 2 3 (by decide)
 obtain⟨pb,pb',ρ2,f1,f2,f3⟩:=h' 0 1 2 3 (by decide)
 rw[e1] at f1;cases f1
 rw[e2] at f2;cases f2
 rw[e3] at f3
 exact(MO.rt.inj (ME f3)).1
def LW(j i C:Nat)(x:Str):MU:=fun S ρ=>match i5 i ρ with
 | some (.obj k a ks ds)=>match xR ks ds x with
  | some (.obj 0 l ls es)=>match es.getLast? with
   | some d=>if k=C+2/\i≠j/\j<ρ.length/\rS i ρ=true/\zv S (a::ds.flatMap ut)=true/\p8 es=true/\p8 (putD ks ds x .non).2=true/\S.contains l=true then some (.nx ((ρ.set i (some (.obj k a (putD ks ds x (.obj 0 l ls es.dropLast)).1 (putD ks ds x (.obj 0 l ls es.dropLast)).2))).set j (some d))) else none
   | none=>none
  | _=>none
 | _=>none
mutual
def nof:D->Bool
 | .tup xs=>nofs xs
 | .lst xs=>nofs xs
 | .fro _=>false
 | .obj ..=>false
 | .rf ..=>false
 | _=>true
def nofs:LD->Bool
 | []=>true
 | x::xs=>nof x&&nofs xs
end
def Ca(i C:Nat)(x:Str)(F:R->OD):R->OD:=fun ρ=>match i5 i ρ with
 | some (.obj k a ks ds)=>match xR ks ds x with
  | some (.obj 0 l ls es)=>if k=C+2/\rS i ρ=true/\p8 es=true/\p8 (putD ks ds x .non).2=true then (F (ρ.set i (some (.obj k a (putD ks ds x (.fro es)).1 (putD ks ds x (.fro es)).2)))).bind fun d=>if nof d then some d else none else none
  | _=>none
 | _=>none
def BX(f:R->OD):R->Me LD:=fun ρ=>(f ρ).bind fun x=>match x with
 | .fro es=>some es
 | _=>none
end HW
namespace HW
open PySem PySem.Spec PyProof.Rows L2
section
variable{K:Mj}{H H' H1 H2:Hp}{A S:List Nat}
theorem qr(m:qN A H)(s:rH A H H'):∀{d:D} {v:V},okN d=true->(∀b∈ut d,b∉A)->Rep K H d v->Rep K H' d v:=by
 intro d v h hA r
 match d,h,hA,r with
 | .obj 0 l ls es,h,hA,⟨xs,e,⟨z,its,n,rv,q⟩,t⟩=>exact⟨xs,e,⟨z,its,n,rv,s _ _ (hA l (Mr.mpr rfl)) q⟩,k9.kq m s h t⟩
 | .obj (k+1) l ls es,h,_,_=>cases (show qU (.obj (k+1) l ls es)=true from h)
 | .rf a,h,_,_=>cases (show qU (.rf a)=true from h)
 | .non,_,_,r=>exact r
 | .bl _,_,_,r=>exact r
 | .int _,_,_,r=>exact r
 | .str _,_,_,r=>exact r
 | .tup ds,h,_,r=>exact Rep.kq m s (d:=.tup ds) h r
 | .lst ds,h,_,r=>exact Rep.kq m s (d:=.lst ds) h r
 | .fro ds,h,_,r=>exact Rep.kq m s (d:=.fro ds) h r
theorem l_(m:qN A H)(s:rH A H H'):∀{ds:LD} {vs:List V},ds.all okN=true->(∀b∈ds.flatMap ut,b∉A)->k9 K H ds vs->k9 K H' ds vs
 | [],_,_,_,r=>r
 | d::ds,_,h,hA,r=>by
  rw[Ng,Mp] at h
  rw[List.flatMap_cons] at hA
  obtain⟨v,vr,e,r1,r2⟩:=r
  exact⟨v,vr,e,qr m s h.1 (fun b hb=>hA b (Nr _ hb)) r1,l_ m s h.2 (fun b hb=>hA b (MA _ hb)) r2⟩
theorem Rep.sepE(m:qN A H)(s:rH A H H'):∀{d:D} {v:V},sepE A d=true->Rep K H d v->Rep K H' d v:=by
 intro d v h r
 cases d with
 | obj k a ks es =>
  have h':((a::es.flatMap ut).all (fun x=>!A.contains x)&&es.all okN)=true:=h
  rw[Mp] at h'
  have hA:∀b∈a::es.flatMap ut,b∉A:=fun b hb z=>by
   have:=M3.mp h'.1 b hb
   simp at this
   exact this z
  obtain⟨xs,e,q,t⟩:=r
  exact⟨xs,e,q.to fun u e' _=>s a u (hA a (.head _)) e',l_ m s h'.2 (fun b hb=>hA b (.tail _ hb)) t⟩
 | rf a=>exact r
 | _=>exact Rep.kq m s h r
theorem k9.sepE(m:qN A H)(s:rH A H H'):∀{ds:LD} {vs:List V},ds.all (HW.sepE A)=true->k9 K H ds vs->k9 K H' ds vs
 | [],_,_,r=>r
 | d::ds,_,h,r=>by
  rw[Ng,Mp] at h
  obtain⟨v,vr,e,r1,r2⟩:=r
  exact⟨v,vr,e,Rep.sepE m s h.1 r1,k9.sepE m s h.2 r2⟩
theorem Rep.sep(m:qN A H)(s:rH A H H'):∀{d:D} {v:V},vB A (some d)=true->Rep K H d v->Rep K H' d v:=by
 intro d v h r
 cases d with
 | lst ds =>
  obtain⟨a,xs,e,q,t⟩:=r
  exact⟨a,xs,e,s _ _ (m.nin q fun z=>z) q,k9.sepE m s h t⟩
 | _=>exact Rep.sepE m s h r
theorem o_{ρ:R}{σ:L2.St}{i:Nat}{ob':D}{v:V}(er:qV K H ρ σ)(m:qN A H)(s:rH A H H')(hn:zh i A ρ=true)(hv:σ[i]?=some (some v))(r:Rep K H' ob' v):qV K H' (ρ.set i (some ob')) σ:=by
 refine⟨by rw[MR];exact er.1,fun j d h=>?_⟩
 by_cases hj:j=i
 ·subst hj
  have hl:j<ρ.length:=by have:=(MG.mp h).1;simpa using this
  rw[Na hl] at h
  cases h
  exact⟨v,hv,r⟩
 ·rw[MW (Ne.symm hj)] at h
  obtain⟨u,h1,h2⟩:=er.2 j d h
  have hd:vB A (some d)=true:=M3.mp hn _ (NA (i:=j) (by rw[MW (Ne.symm hj)];exact h))
  exact⟨u,h1,Rep.sep m s hd h2⟩
theorem CM{ρ:R}{σ τ:L2.St}{i:Nat}{ob o':D}(er:qP K H ρ τ σ)(m:qN S H)(hat:i5 i ρ=some ob)(ho:tU ob=true)(hn:zh i (adr ob) ρ=true)(hin:zv S (adr ob)=true)(s1:l0 H H1)(kq:rH (adr ob) H1 H2)(m2:qN (adr ob) H2)
  (r:Rep K H2 o' (.ref (sR ob))):rH S H H2/\qN S H2/\qP K H2 (ρ.set i (some o')) τ σ:=by
 have sub:=Ba hin
 have m1:=m.same s1
 have mS:qN S H2:=fun b hb=>by
  by_cases hba:b∈adr ob
  ·exact m2 b hba
  ·have hm:=m1 b hb
   cases e:H1 b with
   | none=>rw[e] at hm;exact hm.elim
   | some u=>rw[kq b u hba e];rw[e] at hm;exact hm
 obtain⟨v,hσ,rv⟩:=(er.mono s1).1.at hat
 have mo:=xw rv
 rw[fV ho rv] at hσ
 exact⟨(rH.of s1).trans (kq.mono sub),mS,o_ (er.mono s1).1 mo kq hn hσ r,by rw[MR];exact er.2⟩
end
section
variable{X:Cx}{pos:Pos}
theorem nX{F:R->Me LD}{G:LD->Me (D×D)}{S:List Nat}{i j:Nat}{ρ ρ':R}{σ τ:L2.St}{H:Hp}{d:D}{Q:VK}(hF:∀ ρ ds ob,F ρ=some ds->i5 i ρ=some ob->ds[j]?=some ob)(er:qP X.K H ρ τ σ)(m:qN S H)(e:As i G F S ρ=some (d,ρ'))
  (q:∀v H',rH S H H'->qN S H'->Rep X.K H' d v->qP X.K H' ρ' τ σ->Q v H'):Gi (CY X.K j G) [] E0 (HU X.K F) σ H Q:=by
 obtain⟨ob,hat,e⟩:=i9 e
 obtain⟨ds,e1,e⟩:=i9 e
 obtain⟨r,e2,e⟩:=i9 e
 split at e
 case isFalse=>cases e
 case isTrue hc =>
 obtain⟨ho,hn,hin⟩:=hc
 obtain⟨rfl,rfl⟩:r.1=d/\ρ.set i (some r.2)=ρ':=by simpa using e
 refine⟨ρ,ds,er.1,e1,fun vs H1 s1 r1=>?_⟩
 show CY X.K j G (vs++[]) H1 Q E0
 rw[M5]
 refine⟨ds,ob,r.1,r.2,r1,hF ρ ds ob e1 hat,ho,e2,fun v H2 kq m2 rd ro=>?_⟩
 obtain⟨a,b,c⟩:=CM er m hat ho hn hin s1 kq m2 ro
 exact q v H2 a b rd c
variable{x:Str}{e:MJ}{es:List MJ}{F:R->Me LD}{G:LD->Me (D×D)}{k j:Nat}{ps:List Str}{p:Pos}
variable{C:Nat}{mn:Str}{apos:Pos}
end
section
variable{X:Cx}{pins pins0:List (Ml×Obj)}{σ σ0:L2.St}{H H0:Hp}{s s0:Mi}{l:Ml}{its:List Mg}{n:Nat}{xs:List V}
theorem Ko(I:L2.Inv X pins σ H s)(h:H l=some (.frz {cls:=.type "list",data:=.seq its.toArray n} (.own 0)))(r:m8 xs its)(z:xs.length<=sizeLine):L2.Inv X pins σ (upd H l (.frz {cls:=.type "list",data:=.seq its.toArray n} (.lst xs))) s:=by
 have e:=(I.hok l _ h).1
 exact I.write (t':=s.toks) (h':=s.heap) (o:=.frz {cls:=.type "list",data:=.seq its.toArray n} (.lst xs)) (x:=l) (e:=l) (by rw[h];trivial) (.inl rfl) (fun _ _ _ q=>q) ⟨_,e⟩ ⟨e,z,its,n,r,e⟩
theorem Ha{o:Obj}(I0:L2.Inv X pins0 σ0 H0 s0)(h0:H0 l=some (.frz o (.own 0)))(I:L2.Inv X pins σ H s)(h:H l=some (.frz o (.lst xs))):L2.Inv X pins σ (upd H l (.frz o (.own 0))) s:=by
 have e:=(I.hok l _ h).1
 have ne:∀{b:Ml},H b=none->b≠l:=fun {b} hb z=>by rw[z,h] at hb;cases hb
 refine⟨I.ok,I.os,I.bare,⟨I.base.keep,I.base.slot,fun b ob q nn hx=>?_,I.base.there,fun b ys q=>?_,fun b ob u ny q=>?_,fun b ps d q=>?_⟩,I.loc,I.cell,?_,fun y c hc=>?_,fun p hp=>?_,fun b u q=>?_,I.len⟩
 ·have z:=I.base.free b ob q nn hx
  rw[ar (ne z)];exact z
 ·have z:=I.base.tups b ys q
  rw[ar fun w=>by rw[w,h] at z;cases z];exact z
 ·have z:=I.base.frzs b ob u ny q
  rw[ar fun w=>?_]
  ·exact z
  ·have z0:=I0.base.frzs b ob u ny q
   rw[w,h0] at z0
   cases z0
   exact ny 0 rfl
 ·have z:=I.base.tbls b ps d q
  rw[ar fun w=>by rw[w,h] at z;cases z];exact z
 ·rw[ar (ne I.free)];exact I.free
 ·rw[ar (ne (I.freeC y c hc))];exact I.freeC y c hc
 ·obtain⟨p1,p2,p3⟩:=I.pin p hp
  exact⟨p1,by rw[ar (ne p2)];exact p2,p3⟩
 ·by_cases hb:b=l
  ·subst hb
   rw[ay] at q
   cases q
   exact⟨e,_,e⟩
  ·rw[ar hb] at q
   refine(I.hok b u q).stay (fun c v _ r=>r) (fun c r=>?_) (fun c ys r=>?_) fun c _ _ r=>?_
   ·rw[ar fun w=>by rw[w,h] at r;cases r];exact r
   ·rw[ar fun w=>by rw[w,h] at r;cases r];exact r
   ·rw[ar fun w=>by rw[w,h] at r;cases r];exact r
end
section
variable{K:Mj}{H:Hp}{l:Ml}{o:Obj}{ys:List V}{u:HO}
mutual
theorem Rep.nof(h:H l=some (.frz o (.lst ys))):∀{d:D} {v:V},nof d=true->Rep K H d v->Rep K (upd H l u) d v
 | .non,_,_,r=>r
 | .bl _,_,_,r=>r
 | .int _,_,_,r=>r
 | .str _,_,_,r=>r
 | .tup ds,_,hn,r=>by
  obtain⟨a,xs,e,q,t⟩:=r
  refine⟨a,xs,e,?_,k9.nof h hn t⟩
  rcases q with (q | ⟨o',q⟩) | q
  ·exact .inl (.inl (by rw[ar fun w=>by rw[w,h] at q;cases q];exact q))
  ·exact .inl (.inr ⟨o',by rw[ar fun w=>by rw[w,h] at q;cases q];exact q⟩)
  ·exact .inr q
 | .lst ds,_,hn,r=>by
  obtain⟨a,xs,e,q,t⟩:=r
  exact⟨a,xs,e,by rw[ar fun w=>by rw[w,h] at q;cases q];exact q,k9.nof h hn t⟩
 | .fro _,_,hn,_=>by cases hn
 | .obj ..,_,hn,_=>by cases hn
 | .rf ..,_,hn,_=>by cases hn
theorem k9.nof(h:H l=some (.frz o (.lst ys))):∀{ds:LD} {vs:List V},nofs ds=true->k9 K H ds vs->k9 K (upd H l u) ds vs
 | [],_,_,r=>r
 | d::ds,_,hn,r=>by
  have hn':(HW.nof d&&nofs ds)=true:=hn
  rw[Mp] at hn'
  obtain⟨v,vr,e,r1,r2⟩:=r
  exact⟨v,vr,e,Rep.nof h hn'.1 r1,k9.nof h hn'.2 r2⟩
end
theorem k9.dropLast:∀{ds:LD} {vs:List V},k9 K H ds vs->k9 K H ds.dropLast vs.dropLast
 | [],_,r=>by cases (show _=[] from r);rfl
 | [d],_,r=>by
  obtain⟨v,vr,rfl,_,r2⟩:=r
  cases (show vr=[] from r2);rfl
 | d::d'::ds,_,r=>by
  obtain⟨v,vr,rfl,r1,r2⟩:=r
  obtain⟨v',vr',e,r3,r4⟩:=r2
  subst e
  exact⟨v,_,rfl,r1,k9.dropLast (ds:=d'::ds) (vs:=v'::vr') ⟨v',vr',rfl,r3,r4⟩⟩
end
section
variable{X:Cx}{pos:Pos}
theorem qd{tg a:MJ}{f:R->OD}(ha:SE X a f):SI X tg a (BX f):=(nY ha).imp fun σ H W ⟨ρ,ds,er,e,q⟩=>by
 obtain⟨x,e1,e⟩:=i9 e
 refine⟨ρ,x,er,e1,fun v H1 s1 r1=>?_⟩
 cases x with
 | fro xs =>
  cases e
  obtain⟨a,vs,ev,hq,t⟩:=r1
  exact .inl ⟨a,ev,.inl ⟨⟨vs,hq⟩,q _ H1 s1 (gu hq t)⟩⟩
 | _=>cases e
theorem pq{e:MJ}{F:R->OD}{x:Str}(i C:Nat)(h:SE X e F):SE X e (Ca i C x F):=by
 intro pins s σ H Q I ⟨ρ,d,er,e0,q⟩
 unfold Ca at e0
 split at e0
 case h_2=>cases e0
 case h_1 k a ks ds hat =>
 split at e0
 case h_2=>cases e0
 case h_1 l ls es hkey =>
 split at e0
 case isFalse=>cases e0
 case isTrue hc =>
 obtain⟨rfl,h2,h5,h6⟩:=hc
 obtain⟨d',eF,e0⟩:=i9 e0
 split at e0
 case isFalse=>cases e0
 case isTrue hnf =>
 cases e0
 obtain⟨v,hσ,rv⟩:=er.at hat
 obtain⟨xs,ev,⟨hl,dx,hH⟩,t⟩:=rv
 subst ev
 obtain⟨y,hlk,ry⟩:=xA hkey t hl
 obtain⟨ys,ey,⟨hz,its,nn,rv,hL⟩,ty⟩:=ry
 subst ey
 have I1:=Ko I hL rv hz
 have k01:rH [l] H (upd H l (.frz {cls:=.type "list",data:=.seq its.toArray nn} (.lst ys))):=fun b u nb eb=>by rw[ar fun z=>nb (by rw[z];exact Mr.mpr rfl)];exact eb
 have ml:qN [l] H:=fun b hb=>by rw[Mr.mp hb,hL];trivial
 have hla:a≠l:=fun z=>by rw[z,hL] at hH;cases hH
 have kq:∀{d:D} {v:V},qU d=true->Rep X.K H d v->Rep X.K (upd H l (.frz {cls:=.type "list",data:=.seq its.toArray nn} (.lst ys))) d v:=fun hn r=>Rep.kq ml k01 hn r
 have rf:Rep X.K (upd H l (.frz {cls:=.type "list",data:=.seq its.toArray nn} (.lst ys))) (.fro es) (.ref l):=⟨l,ys,rfl,.inl (.inr ⟨_,ay⟩),k9.kq ml k01 h5 ty⟩
 obtain⟨g1,g2⟩:=ie hkey hlk t hl h6 kq rf
 have rob:Rep X.K (upd H l (.frz {cls:=.type "list",data:=.seq its.toArray nn} (.lst ys))) (.obj (C+2) a (putD ks ds x (.fro es)).1 (putD ks ds x (.fro es)).2) (.ref a):=by
  rw[g1]
  exact⟨xs,rfl,⟨hl,dx,by rw[ar hla];exact hH⟩,g2⟩
 refine qW (h pins s σ _ (fun v H2=>l0 (upd H l (.frz {cls:=.type "list",data:=.seq its.toArray nn} (.lst ys))) H2/\Rep X.K H2 d v) I1 ⟨_,d,nN er ml k01 h2 hσ rob,eF,fun v H' s1 r1=>⟨s1,r1⟩⟩) fun u s1 ⟨v,H2,I2,ru,s12,rd⟩=>?_
 have hL2:=s12 _ _ ay
 refine⟨v,_,Ha I hL I2 hL2,ru,q v _ (fun b w hb=>?_) (Rep.nof hL2 hnf rd)⟩
 by_cases hbl:b=l
 ·subst hbl
  rw[hL] at hb
  cases hb
  exact ay
 ·rw[ar hbl]
  exact s12 b w (by rw[ar hbl];exact hb)
end
end HW
namespace HW
open PySem
def Ho(i:Nat)(mk:LD->Nat->Nat->OD)(ds:LD)(w:MU)(S:List Nat)(ρ:R)(r:D):Prop:=∀a l,a≠l->a∉S->l∉S->∃ob ρ',mk ds a l=some ob/\w (a::l::S) (ρ.set i (some ob))=some (.rt r ρ')
theorem Dt(S:List Nat):∃a l:Nat,a≠l/\a∉S/\l∉S:=by
 have h:∀S:List Nat,∃n,∀x∈S,x<n:=fun S=>by
  induction S with
  | nil=>exact⟨0,fun _ h=>by cases h⟩
  | cons y S ih =>
   obtain⟨n,hn⟩:=ih
   refine⟨n+y+1,fun x hx=>?_⟩
   rcases Mu.mp hx with rfl | hx
   ·omega
   ·have:=hn x hx;omega
 obtain⟨n,hn⟩:=h S
 exact⟨n,n+1,by omega,fun z=>by have:=hn _ z;omega,fun z=>by have:=hn _ z;omega⟩
theorem Ho.uniq{i:Nat}{mk:LD->Nat->Nat->OD}{ds:LD}{w:MU}{S:List Nat}{ρ:R}{r r':D}(h:Ho i mk ds w S ρ r)(h':Ho i mk ds w S ρ r'):r=r':=by
 obtain⟨a,l,h1,h2,h3⟩:=Dt S
 obtain⟨ob,ρ1,e1,e2⟩:=h a l h1 h2 h3
 obtain⟨pb,ρ2,f1,f2⟩:=h' a l h1 h2 h3
 rw[e1] at f1;cases f1
 rw[e2] at f2
 exact(MO.rt.inj (ME f2)).1
abbrev XD:=R->Me (Except Nat D)
abbrev XO:=R->Me (Except Nat Out)
structure FL where
 q:Str
 params:Arguments
 body:MJ
 scope:Scope
 N:List Str
 ps:List Str
 deriving Inhabited
abbrev MX:=R->Me (Except Nat (D×D))
def IP:Str:=oS "told"
def sT:ML->MJ
 | .If c ..=>c
 | _=>.Name "" ⟨0,0,0,0⟩
abbrev MC:=List Nat->R->Me (D×R)
def uQ:LD->LD->LD->LD
 | x::xs,y::ys,z::zs=>.tup [x,y,z]::uQ xs ys zs
 | _,_,_=>[]
def Dy(f g h:R->OD):R->Me LD:=fun ρ=>(f ρ).bind fun x=>(g ρ).bind fun y=>(h ρ).bind fun z=>(l8? x).bind fun xs=>(l8? y).bind fun ys=>(l8? z).bind fun zs =>
 if xs.length=ys.length/\xs.length=zs.length then some (uQ xs ys zs) else none
theorem wj:∀{xs ys zs:LD},xs.length=ys.length->xs.length=zs.length->(uQ xs ys zs).length=xs.length
 | [],_,_,_,_=>by simp[uQ]
 | x::xs,y::ys,z::zs,h1,h2=>by
  show(uQ xs ys zs).length+1=xs.length+1
  rw[wj (by simpa using h1) (by simpa using h2)]
 | _::_,[],_,h1,_=>by cases h1
 | _::_,_::_,[],_,h2=>by cases h2
theorem yQ:∀{xs ys zs:LD} {i:Nat} {d:D},(uQ xs ys zs)[i]?=some d->∃x y z,xs[i]?=some x/\ys[i]?=some y/\zs[i]?=some z/\d=.tup [x,y,z]
 | [],ys,zs,i,d,h=>by simp[uQ] at h
 | x::xs,[],zs,i,d,h=>by simp[uQ] at h
 | x::xs,y::ys,[],i,d,h=>by simp[uQ] at h
 | x::xs,y::ys,z::zs,0,d,h=>by
  have e:D.tup [x,y,z]=d:=by simpa [uQ] using h
  exact⟨x,y,z,rfl,rfl,rfl,e.symm⟩
 | x::xs,y::ys,z::zs,i+1,d,h=>by
  obtain⟨a,b,c,h1,h2,h3,h4⟩:=yQ (xs:=xs) (ys:=ys) (zs:=zs) (i:=i) (d:=d) (by simpa [uQ] using h)
  exact⟨a,b,c,by simpa using h1,by simpa using h2,by simpa using h3,h4⟩
def xM(i:Nat)(g:R->OD):R->Me LD:=fun ρ=>match i5 i ρ with
 | some (.lst obs)=>(g ρ).bind fun y=>match y with
  | .lst ys=>if obs.all tU=true/\p8 ys=true/\obs.length=ys.length then some (Dq (obs.map fun o=>.rf (sR o)) ys) else none
  | _=>none
 | _=>none
def Gy(it:R->Me LD)(st:D->R->Me R)(u:MU):MU:=fun S ρ=>(it ρ).bind fun ds=>xX st u S ds ρ
def G0(a:Nat):OD->Bool
 | some (.rf b)=>b==a
 | _=>false
def Gc(i w n a:Nat):MO->Me MO
 | .rt d ρ=>some (.rt d ρ)
 | .nx ρ=>match i5 i ρ,i5 w ρ with
  | some (.lst obs),some ob=>if i≠w/\tU ob=true/\sR ob=a/\G0 a obs[n]?=true then some (.nx ((ρ.set i (some (.lst (obs.set n ob)))).set w none)) else none
  | _,_=>none
def BZ(i w:Nat)(u:MU):MU:=fun S ρ=>match i5 i ρ,i5 w ρ with
 | some (.lst obs),some (.rf a)=>(obs.findIdx? fun o=>tU o&&sR o==a).bind fun n=>(u S ((ρ.set i (some (.lst (obs.set n (.rf a))))).set w obs[n]?)).bind (Gc i w n a)
 | _,_=>none
def y_(p:R->Me Bool)(c:MC)(F:D->D->Me Bool)(h:R->OD)(u w:MU):MU:=fun S ρ=>(p ρ).bind fun b=>if b then (c S ρ).bind fun q=>(h q.2).bind fun y=>(F q.1 y).bind fun b2=>if b2 then u S q.2 else w S q.2 else w S ρ
noncomputable def DP(mk:LD->Nat->Nat->OD):LD->List (Nat×Nat)->Me LD
 | [],[]=>some []
 | d::ds,p::ps=>(mk [d] p.1 p.2).bind fun o=>(DP mk ds ps).map (o::·)
 | _,_=>none
def fl(ps:List (Nat×Nat)):List Nat:=ps.flatMap fun p=>[p.1,p.2]
theorem Ay{mk:LD->Nat->Nat->OD}{d o:D}{a l:Nat}(h:mk [d] a l=some o):∀{ds obs:LD} {ps:List (Nat×Nat)},DP mk ds ps=some obs->DP mk (ds++[d]) (ps++[(a,l)])=some (obs++[o])
 | [],obs,[],e=>by
  cases (show []=obs from ME e)
  show(mk [d] a l).bind _=_
  rw[h];rfl
 | x::ds,obs,p::ps,e=>by
  cases e1:mk [x] p.1 p.2 with
  | none =>
   have e':(mk [x] p.1 p.2).bind _=some obs:=e
   rw[e1] at e';cases e'
  | some y =>
   have e':(mk [x] p.1 p.2).bind _=some obs:=e
   rw[e1,Mn] at e'
   cases e2:DP mk ds ps with
   | none=>rw[e2] at e';cases e'
   | some ys =>
    rw[e2] at e'
    cases (show y::ys=obs from ME e')
    show(mk [x] p.1 p.2).bind _=_
    rw[e1,Mn]
    show(DP mk (ds++[d]) (ps++[(a,l)])).map _=_
    rw[Ay h e2];rfl
 | [],_,_::_,e=>by cases e
 | _::_,_,[],e=>by cases e
theorem zd(ps:List (Nat×Nat))(a l:Nat):fl (ps++[(a,l)])=fl ps++[a,l]:=by
 unfold fl
 rw[List.flatMap_append];rfl
def Al(i:Nat)(mk:LD->Nat->Nat->OD)(ds:LD)(w:MU)(ρ:R)(r:D):Prop:=∀ps:List (Nat×Nat),ps.length=ds.length->(fl ps).Nodup->∃obs ρ',DP mk ds ps=some obs/\w (fl ps) (ρ.set i (some (.lst obs)))=some (.rt r ρ')
theorem AJ:∀n:Nat,∃ps:List (Nat×Nat),ps.length=n/\(fl ps).Nodup
 | 0=>⟨[],rfl,.nil⟩
 | n+1=>by
  obtain⟨ps,h1,h2⟩:=AJ n
  obtain⟨a,l,h3,h4,h5⟩:=Dt (fl ps)
  refine⟨(a,l)::ps,by rw[Nd,h1],?_⟩
  show(a::l::fl ps).Nodup
  rw[List.nodup_cons,List.nodup_cons]
  refine⟨fun z=>?_,h5,h2⟩
  rcases Mu.mp z with z | z
  ·exact h3 z
  ·exact h4 z
theorem Al.uniq{i:Nat}{mk:LD->Nat->Nat->OD}{ds:LD}{w:MU}{ρ:R}{r r':D}(h:Al i mk ds w ρ r)(h':Al i mk ds w ρ r'):r=r':=by
 obtain⟨ps,h1,h2⟩:=AJ ds.length
 obtain⟨ob,ρ1,e1,e2⟩:=h ps h1 h2
 obtain⟨pb,ρ2,f1,f2⟩:=h' ps h1 h2
 rw[e1] at f1;cases f1
 rw[e2] at f2
 exact(MO.rt.inj (ME f2)).1
noncomputable def yP(k i:Nat)(mk:LD->Nat->Nat->OD)(it:R->Me LD)(w:MU):R->Me Out:=fun ρ=>(it (ρ.set k none)).bind fun ds=>open Classical in
 if h:(i<ρ.length/\k<ρ.length/\i≠k/\ds.length<=1000/\∀d∈ds,∀a l,(mk [d] a l).isSome=true)/\∃r,Al i mk ds w (ρ.set k none) r then some (.rt h.2.choose) else none
theorem Eo{k i:Nat}{mk:LD->Nat->Nat->OD}{it:R->Me LD}{w:MU}{ρ:R}{ds:LD}{r:D}(h1:it (ρ.set k none)=some ds)(h2:i<ρ.length/\k<ρ.length/\i≠k/\ds.length<=1000/\∀d∈ds,∀a l,(mk [d] a l).isSome=true)(h3:Al i mk ds w (ρ.set k none) r):yP k i mk it w ρ=some (.rt r):=by
 unfold yP
 have q:(i<ρ.length/\k<ρ.length/\i≠k/\ds.length<=1000/\∀d∈ds,∀a l,(mk [d] a l).isSome=true)/\∃r,Al i mk ds w (ρ.set k none) r:=⟨h2,r,h3⟩
 rw[h1,Mn,dif_pos q]
 exact congrArg (fun x=>some (Out.rt x)) (Al.uniq q.2.choose_spec h3)
theorem DD{k i:Nat}{mk:LD->Nat->Nat->OD}{it:R->Me LD}{w:MU}{ρ:R}{o:Out}(h:yP k i mk it w ρ=some o):∃ds r,it (ρ.set k none)=some ds/\(i<ρ.length/\k<ρ.length/\i≠k/\ds.length<=1000/\∀d∈ds,∀a l,(mk [d] a l).isSome=true)/\o=.rt r/\Al i mk ds w (ρ.set k none) r:=by
 unfold yP at h
 cases e:it (ρ.set k none) with
 | none=>rw[e] at h;cases h
 | some ds =>
  rw[e,Mn] at h
  split at h
  ·rename_i q
   cases h
   exact⟨ds,_,rfl,q.1,rfl,q.2.choose_spec⟩
  ·cases h
end HW
namespace HW
open PySem PySem.Spec PyProof.Rows L2
abbrev qZ(h:MI)(T:Ml)(a b c:Mg):Prop:=h.get? T=some {cls:=.type "tuple",data:=.seq #[a,b,c]}
structure FH (z TI TO i1 i2 i3:Ml):Prop where
 ne:List.Nodup [z,TI,TO,i1,i2,i3]
section
variable{z TI TO i1 i2 i3:Ml}
theorem FH.all(D:FH z TI TO i1 i2 i3):(TI≠z/\TO≠z/\i1≠z/\i2≠z/\i3≠z)/\(TI≠TO/\TI≠i1/\TI≠i2/\TI≠i3)/\(TO≠i1/\TO≠i2/\TO≠i3)/\(i1≠i2/\i1≠i3)/\i2≠i3:=by
 have h:=D.ne
 simp only[List.nodup_cons,Mu,List.not_mem_nil,or_false,not_or,not_false_eq_true,List.nodup_nil,and_true] at h
 obtain⟨⟨a1,a2,a3,a4,a5⟩,⟨b1,b2,b3,b4⟩,⟨c1,c2,c3⟩,⟨d1,d2⟩,e1⟩:=h
 exact⟨⟨Ne.symm a1,Ne.symm a2,Ne.symm a3,Ne.symm a4,Ne.symm a5⟩,⟨b1,b2,b3,b4⟩,⟨c1,c2,c3⟩,⟨d1,d2⟩,e1⟩
end
section
variable{prog:Mv}{w:MH}{A:MQ}{E:Mg->Mi->Prop}{s:Mi}
theorem iv{T:Ml}{a b c x:Mg}{k:Nat}{Q:Unit->Mi->Prop}(hT:qZ s.heap T a b c)
  (h:∀h',h'.get? T=some {cls:=.type "tuple",data:=.seq ((#[a,b,c]:Array Mg).setIfInBounds k x)}->Heap.SameBut T s.heap h'->Q () {s with heap:=h' }):wpAny (model prog w) A (updateSeq T (·.setIfInBounds k x)) Q E s:=
 wpAny_updateSeq hT rfl (h _ (by rw[Nq _ hT rfl];simp[Obj.mapSeq]) (Heap.SameBut.update ..))
variable{Good:MI->Nat->Prop}{z TI TO i1 i2 i3:Ml}{a b c:Mg}{st1 st1' st2 st2' st3 st3':MI->Prop}{P1 P2 P3:Mg->Prop}
theorem mT {Q:Mg->Mi->Prop} (D:FH z TI TO i1 i2 i3) (hz:IsZip s.heap z TI TO .none) (hI:qZ s.heap TI (.ref i1) (.ref i2) (.ref i3)) (hO:qZ s.heap TO a b c)
    (g0:Good s.heap s.toks) (cl:Cl Good [z,TO,i1,i2,i3]) (n1:Nx prog w A (rF s) Good i1 st1 st1' P1) (n2:Nx prog w A (rF s) Good i2 st2 st2' P2) (n3:Nx prog w A (rF s) Good i3 st3 st3' P3) (q1:st1 s.heap) (q2:st2 s.heap) (q3:st3 s.heap)
    (hQ:∀h5 tk u1 u2 u3 h8,Good h5 tk->P1 u1->P2 u2->P3 u3->IsZip h5 z TI TO .ellipsis->qZ h5 TI (.ref i1) (.ref i2) (.ref i3)->qZ h5 TO u1 u2 u3->st1' h5->st2' h5->st3' h5->IsZip h8 z TI TO (rawInt h5.objs.size) ->
      (∀c o,c≠z->(h5.push {cls:=.type "tuple",data:=.seq #[u1,u2,u3]}).get? c=some o->h8.get? c=some o)->Q (.ref h5.objs.size) (rF s h8 tk)) :
    wpAny (model prog w) A (Builtin.«zip.__next__» ⟨[.ref z],[]⟩) (fun fin s'=>∃v,fin=.done (.ret v)/\Q v s') E s:=by
  obtain⟨⟨a1,a2,a3,a4,a5⟩,⟨b1,b2,b3,b4⟩,⟨c1,c2,c3⟩,⟨d1,d2⟩,e1'⟩:=D.all
  show wpAny _ _ (field (.ref z) 2 >>= _) _ _ _;refine Mf (wpAny_field hz rfl (x:=.bool false) rfl ?_)
  show wpAny _ _ (field (.ref z) 3 >>= _) _ _ _;refine Mf (wpAny_field hz rfl (x:=.ref TI) rfl ?_)
  refine Mf (wpAny_seqItems hI rfl ?_);show wpAny _ _ (Builtin.SmallTypes.ownedTupleIsFree (.ref z) >>= _) _ _ _
  refine Mf ?_;unfold Builtin.SmallTypes.ownedTupleIsFree
  refine Mf (wpAny_field hz rfl (x:=.none) rfl (Mm ?_));simp only[if_true]
  refine Mf (wpAny_rule ?_);refine Mf (wpAny_field hz rfl (x:=.ref TO) rfl ?_)
  refine Mf (wpAny_setField_rec hz (by simp) fun h1 hz1 s1=>?_)
  replace hz1:IsZip h1 z TI TO .ellipsis:=hz1
  have e1:∀b o,b≠z->s.heap.get? b=some o->h1.get? b=some o:=s1.extBut
  have g1:Good h1 s.toks:=cl z (by simp) _ _ _ _ g0 e1
  refine Mf ?_;simp only[List.zipIdx_cons,List.zipIdx_nil,List.forIn_cons,List.forIn_nil]
  refine Mf (Mf (wpAny_onRaise ?_));show wpAny _ _ (Builtin.SmallTypes.nextOf (.ref i1) >>= _) _ _ _
  refine Mf (n1.run h1 s.toks _ _ g1 (n1.stay _ _ q1 fun o=>e1 _ o a3) fun u1 h2 tk2 p1 t1 s2=>Mm ?_)
  have e2:∀b o,b≠i1->h1.get? b=some o->h2.get? b=some o:=s2.extBut
  have g2:Good h2 tk2:=cl i1 (by simp) _ _ _ _ g1 e2
  have O2:qZ h2 TO a b c:=e2 _ _ c1 (e1 _ _ a2 hO)
  refine Mf (wpAny_seqItems (s:=rF s h2 tk2) O2 rfl ?_)
  refine Mf (iv (s:=rF s h2 tk2) O2 fun h3 O3 s3=>?_)
  replace O3:qZ h3 TO u1 b c:=O3
  have e3:∀b o,b≠TO->h2.get? b=some o->h3.get? b=some o:=s3.extBut
  have g3:Good h3 tk2:=cl TO (by simp) _ _ _ _ g2 e3
  refine Mf (wpAny_letGo (Mm ?_));refine Mf (Mf (wpAny_onRaise ?_))
  show wpAny _ _ (Builtin.SmallTypes.nextOf (.ref i2) >>= _) _ _ (rF s h3 tk2)
  refine Mf (n2.run h3 tk2 _ _ g3 (n2.stay _ _ q2 fun o q=>e3 _ o (Ne.symm c2) (e2 _ o (Ne.symm d1) (e1 _ o a4 q))) fun u2 h4 tk4 p2 t2 s4=>Mm ?_)
  have e4:∀b o,b≠i2->h3.get? b=some o->h4.get? b=some o:=s4.extBut
  have g4:Good h4 tk4:=cl i2 (by simp) _ _ _ _ g3 e4
  have O4:qZ h4 TO u1 b c:=e4 _ _ c2 O3
  refine Mf (wpAny_seqItems (s:=rF s h4 tk4) O4 rfl ?_)
  refine Mf (iv (s:=rF s h4 tk4) O4 fun h5 O5 s5=>?_)
  replace O5:qZ h5 TO u1 u2 c:=O5
  have e5:∀b o,b≠TO->h4.get? b=some o->h5.get? b=some o:=s5.extBut
  have g5:Good h5 tk4:=cl TO (by simp) _ _ _ _ g4 e5
  refine Mf (wpAny_letGo (Mm ?_));refine Mf (Mf (wpAny_onRaise ?_))
  show wpAny _ _ (Builtin.SmallTypes.nextOf (.ref i3) >>= _) _ _ (rF s h5 tk4)
  refine Mf (n3.run h5 tk4 _ _ g5 (n3.stay _ _ q3 fun o q=>e5 _ o (Ne.symm c3) (e4 _ o (Ne.symm e1') (e3 _ o (Ne.symm c3) (e2 _ o (Ne.symm d2) (e1 _ o a5 q))))) fun u3 h6 tk6 p3 t3 s6=>Mm ?_)
  have e6:∀b o,b≠i3->h5.get? b=some o->h6.get? b=some o:=s6.extBut
  have g6:Good h6 tk6:=cl i3 (by simp) _ _ _ _ g5 e6
  have O6:qZ h6 TO u1 u2 c:=e6 _ _ c3 O5
  refine Mf (wpAny_seqItems (s:=rF s h6 tk6) O6 rfl ?_)
  refine Mf (iv (s:=rF s h6 tk6) O6 fun h7 O7 s7=>?_)
  replace O7:qZ h7 TO u1 u2 u3:=O7
  have e7:∀b o,b≠TO->h6.get? b=some o->h7.get? b=some o:=s7.extBut
  have g7:Good h7 tk6:=cl TO (by simp) _ _ _ _ g6 e7
  refine Mf (wpAny_letGo (Mm (Mm ?_)));refine Mf (wpAny_seqItems (s:=rF s h7 tk6) O7 rfl ?_)
  refine Mf (wpAny_newTuple (s:=rF s h7 tk6) ?_)
  have z7:IsZip h7 z TI TO .ellipsis:=e7 _ _ (Ne.symm a2) (e6 _ _ (Ne.symm a5) (e5 _ _ (Ne.symm a2) (e4 _ _ (Ne.symm a4) (e3 _ _ (Ne.symm a2) (e2 _ _ (Ne.symm a3) hz1)))))
  have I7:qZ h7 TI (.ref i1) (.ref i2) (.ref i3):=e7 _ _ b1 (e6 _ _ b4 (e5 _ _ b1 (e4 _ _ b3 (e3 _ _ b1 (e2 _ _ b2 (e1 _ _ a1 hI))))))
  show wpAny _ _ (Builtin.SmallTypes.ownedTupleHandOut (.ref z) (.ref h7.objs.size) >>= _) _ _ _
  refine Mf ?_;unfold Builtin.SmallTypes.ownedTupleHandOut
  have z8:IsZip (h7.push {cls:=.type "tuple",data:=.seq #[u1,u2,u3]}) z TI TO .ellipsis:=Mh _ z7
  refine Mf (wpAny_setField_rec (s:=rF s (h7.push {cls:=.type "tuple",data:=.seq #[u1,u2,u3]}) tk6) z8 (by simp) fun h8 z8 s8=>?_)
  replace z8:IsZip h8 z TI TO (rawInt h7.objs.size):=z8
  refine wpAny_setField_rec (s:=rF s h8 tk6) z8 (by simp) fun h9 z9 s9=>?_
  replace z9:IsZip h9 z TI TO (rawInt h7.objs.size):=z9
  exact Mm ⟨_,rfl,hQ h7 tk6 u1 u2 u3 h9 g7 p1 p2 p3 z7 I7 O7 (n1.stay' _ _ t1 fun o q=>e7 _ o (Ne.symm c1) (e6 _ o d2 (e5 _ o (Ne.symm c1) (e4 _ o d1 (e3 _ o (Ne.symm c1) q)))))
    (n2.stay' _ _ t2 fun o q=>e7 _ o (Ne.symm c2) (e6 _ o e1' (e5 _ o (Ne.symm c2) q))) (n3.stay' _ _ t3 fun o q=>e7 _ o (Ne.symm c3) q) z9 fun c o n q=>s9.extBut _ _ n (s8.extBut _ _ n q)⟩
theorem mD{Q:Fin->Mi->Prop}(D:FH z TI TO i1 i2 i3)(hz:IsZip s.heap z TI TO .none)(hI:qZ s.heap TI (.ref i1) (.ref i2) (.ref i3))
  (g0:Good s.heap s.toks) (cl:Cl Good [z,TO,i1,i2,i3]) (q1:st1 s.heap) (n:Ne prog w A (rF s) Good i1 st1)
  (hE:∀h' tk e,Good h' tk->(∃o,h'.get? e=some o/\o.cls=.type "StopIteration")->E (.ref e) (rF s h' tk)) :
  wpAny (model prog w) A (Builtin.«zip.__next__» ⟨[.ref z],[]⟩) Q E s:=by
 obtain⟨⟨a1,a2,a3,a4,a5⟩,_⟩:=D.all
 show wpAny _ _ (field (.ref z) 2 >>= _) _ _ _;refine Mf (wpAny_field hz rfl (x:=.bool false) rfl ?_)
 show wpAny _ _ (field (.ref z) 3 >>= _) _ _ _;refine Mf (wpAny_field hz rfl (x:=.ref TI) rfl ?_)
 refine Mf (wpAny_seqItems hI rfl ?_);show wpAny _ _ (Builtin.SmallTypes.ownedTupleIsFree (.ref z) >>= _) _ _ _
 refine Mf ?_;unfold Builtin.SmallTypes.ownedTupleIsFree
 refine Mf (wpAny_field hz rfl (x:=.none) rfl (Mm ?_));simp only[if_true]
 refine Mf (wpAny_rule ?_);refine Mf (wpAny_field hz rfl (x:=.ref TO) rfl ?_)
 refine Mf (wpAny_setField_rec hz (by simp) fun h1 hz1 s1=>?_)
 replace hz1:IsZip h1 z TI TO .ellipsis:=hz1
 have e1:∀b o,b≠z->s.heap.get? b=some o->h1.get? b=some o:=s1.extBut
 have g1:Good h1 s.toks:=cl z (by simp) _ _ _ _ g0 e1
 refine Mf ?_;simp only[List.zipIdx_cons,List.zipIdx_nil,List.forIn_cons,List.forIn_nil]
 refine Mf (Mf (wpAny_onRaise ?_));show wpAny _ _ (Builtin.SmallTypes.nextOf (.ref i1) >>= _) _ _ _
 refine Mf (n.run h1 s.toks _ _ g1 (n.stay _ _ q1 fun o=>e1 _ o a3) fun h2 e s2 he=>?_)
 obtain⟨oe,q,ce⟩:=he
 have z2:IsZip h2 z TI TO .ellipsis:=s2 _ _ (Ne.symm a3) hz1
 have ne:e≠z:=fun x=>by rw[x,z2] at q;cases q;simp at ce
 refine wpAny_setField_rec (s:=rF s h2 s.toks) z2 (by simp) fun h3 _ s3=>hE h3 s.toks e ?_ ⟨oe,s3.extBut _ _ ne q,ce⟩
 exact cl z (by simp) _ _ _ _ (cl i1 (by simp) _ _ _ s.toks g1 s2) s3.extBut
theorem ng {Q:Mg->Mi->Prop} (D:FH z TI TO i1 i2 i3) (hz:IsZip s.heap z TI TO .none) (hI:qZ s.heap TI (.ref i1) (.ref i2) (.ref i3)) (hO:qZ s.heap TO a b c)
    (g0:Good s.heap s.toks) (cl:Cl Good [z,TO,i1,i2,i3]) (n1:Nx prog w A.in1 (rF s) Good i1 st1 st1' P1) (n2:Nx prog w A.in1 (rF s) Good i2 st2 st2' P2) (n3:Nx prog w A.in1 (rF s) Good i3 st3 st3' P3) (q1:st1 s.heap) (q2:st2 s.heap) (q3:st3 s.heap)
    (hQ:∀h5 tk u1 u2 u3 h8,Good h5 tk->P1 u1->P2 u2->P3 u3->IsZip h5 z TI TO .ellipsis->qZ h5 TI (.ref i1) (.ref i2) (.ref i3)->qZ h5 TO u1 u2 u3->st1' h5->st2' h5->st3' h5->IsZip h8 z TI TO (rawInt h5.objs.size) ->
      (∀c o,c≠z->(h5.push {cls:=.type "tuple",data:=.seq #[u1,u2,u3]}).get? c=some o->h8.get? c=some o)->Q (.ref h5.objs.size) (rF s h8 tk)) :
    wpAny (model prog w) A (pyNext (.ref z)) (fun r s'=>∃v,r=some v/\Q v s') E s:=by
  have hT:s.TypeIs (.ref z) "zip":=⟨_,hz,rfl⟩
  unfold pyNext
  exact Mf (wpAny_attempt (wpAny_callSpecial?_slot (name:=oS "__next__") hT F.slot_zip_next (wpAny_call_entry F.slot_zip_next hT F.entry_zip_next
      (mT (Q:=fun v s'=>_) D hz hI hO g0 cl n1 n2 n3 q1 q2 q3 fun h5 tk u1 u2 u3 h8 c1 c2 c3 c4 c5 c6 c7 c8 c9 c10 c11 c12=>Mm ⟨_,rfl,hQ h5 tk u1 u2 u3 h8 c1 c2 c3 c4 c5 c6 c7 c8 c9 c10 c11 c12⟩) (F.args_zip_next_1 _))))
theorem nQ{Q:Me Mg->Mi->Prop}(D:FH z TI TO i1 i2 i3)(hz:IsZip s.heap z TI TO .none)(hI:qZ s.heap TI (.ref i1) (.ref i2) (.ref i3))
  (g0:Good s.heap s.toks) (cl:Cl Good [z,TO,i1,i2,i3]) (q1:st1 s.heap) (n:Ne prog w A.in1 (rF s) Good i1 st1)
  (hQ:∀h' tk,Good h' tk->Q none (rF s h' tk)):wpAny (model prog w) A (pyNext (.ref z)) Q E s:=by
 have hT:s.TypeIs (.ref z) "zip":=⟨_,hz,rfl⟩
 unfold pyNext
 refine Mf (wpAny_attempt (wpAny_callSpecial?_slot (name:=oS "__next__") hT F.slot_zip_next (wpAny_call_entry F.slot_zip_next hT F.entry_zip_next
  (mD D hz hI g0 cl q1 n fun h' tk e gg he=>?_) (F.args_zip_next_1 _))))
 obtain⟨o,ho,hc⟩:=he
 exact Mf (wpAny_isInstance (s:=rF s h' tk) (T:="StopIteration") (b:=true) ⟨o,ho,hc⟩ isSubtype_stop (Mm (hQ _ _ gg)))
end
noncomputable def ya(h:MI)(S T U:Src):MI:=((((h.push S.obj).push T.obj).push U.obj).push {cls:=.type "tuple",data:=.seq #[.ref h.objs.size,.ref (h.push S.obj).objs.size,.ref ((h.push S.obj).push T.obj).objs.size]}).push {cls:=.type "tuple",data:=.seq #[.none,.none,.none]}
noncomputable def Bl(h:MI)(S T U:Src):Obj:={cls:=.type "zip",data:=.fields #[.none,.bool false,.bool false,.ref (((h.push S.obj).push T.obj).push U.obj).objs.size,
 .ref ((((h.push S.obj).push T.obj).push U.obj).push {cls:=.type "tuple",data:=.seq #[.ref h.objs.size,.ref (h.push S.obj).objs.size,.ref ((h.push S.obj).push T.obj).objs.size]}).objs.size]}
theorem nM(S T U:Src):Meets (Builtin.«zip.__new__» ⟨[.type "zip",S.val,T.val,U.val],[]⟩) (fun _ R s=>S.ok s.heap/\T.ok s.heap/\U.ok s.heap/\R (.ok (.ret (.ref (ya s.heap S T U).objs.size))) {s with heap:=(ya s.heap S T U).push (Bl s.heap S T U)}):=
 .of_wp fun prog w A R s h=>by
  obtain⟨hp,g,d,tk,os⟩:=s;obtain⟨q1,q2,q3,h⟩:=h
  have hsub:=sub_zip
  have r1:Src.ok (Shared.heap ⟨hp,g,d,tk,os⟩) S:=q1
  have r2:Src.ok (Shared.heap ⟨hp.push S.obj,g,d,tk,os⟩) T:=Src.ok_push q2
  have r3:Src.ok (Shared.heap ⟨(hp.push S.obj).push T.obj,g,d,tk,os⟩) U:=Src.ok_push (Src.ok_push q3)
  wp_walk using Src.iter r1,Src.iter r2,Src.iter r3
  exact⟨_,rfl,h⟩
theorem yB(a b c:Mg):checkTypeCall "zip" ⟨[a,b,c],[]⟩=pure ():=by kernel_rfl
theorem zB(a b c:Mg):checkBuiltinCall "zip.__new__" ⟨[.type "zip",a,b,c],[]⟩=pure ():=by kernel_rfl
theorem GB(a b c d:Mg):argsOk "object.__init__" ⟨[a,b,c,d],[]⟩:=by
 unfold argsOk;rw[signature?_of (id:="object.__init__") (n:=['_','_','t','i','n','i','_','_']) (o:=['t','c','e','j','b','o']) (by kernel_rfl) F.owner_object];kernel_rfl
section
variable{prog:Mv}{w:MH}{A:MQ}{E:Mg->Mi->Prop}{s:Mi}
theorem FU(n:Nat):FH (n+5) (n+3) (n+4) n (n+1) (n+2):=by
 have k:∀a b:Nat,a≠b->(show Ml from a)≠(show Ml from b):=fun a b h=>h
 constructor
 simp only[List.nodup_cons,Mu,List.not_mem_nil,or_false,not_or,not_false_eq_true,List.nodup_nil,and_true]
 refine⟨⟨?_,?_,?_,?_,?_⟩,⟨?_,?_,?_,?_⟩,⟨?_,?_,?_⟩,⟨?_,?_⟩,?_⟩<;>exact k _ _ (by omega)
theorem mR {S T U:Src} {Q:Mg->Mi->Prop} (h1:S.ok s.heap) (h2:T.ok s.heap) (h3:U.ok s.heap)
    (h:∀h' z TI TO i1 i2 i3,FH z TI TO i1 i2 i3->IsZip h' z TI TO .none->qZ h' TI (.ref i1) (.ref i2) (.ref i3)->qZ h' TO .none .none .none->S.at i1 0 h'->T.at i2 0 h'->U.at i3 0 h'->(∀c ∈ [z,TI,TO,i1,i2,i3],s.heap.objs.size<=c) ->
      (∀c o,s.heap.get? c=some o->h'.get? c=some o)->Q (.ref z) {s with heap:=h' }):wpAny (model prog w) A (call (.type "zip") [S.val,T.val,U.val]) Q E s:=by
  refine callType_new F.called_zip (by decide) (yB _ _ _) (zB _ _ _) (fun obj=>GB obj _ _ _) F.entry_zip_new (nM S T U) ⟨h1,h2,h3,?_⟩
  have z1:(s.heap.push S.obj).objs.size=s.heap.objs.size+1:=Heap.size_push ..
  have z2:((s.heap.push S.obj).push T.obj).objs.size=s.heap.objs.size+2:=by rw[Heap.size_push,z1]
  have z3:(((s.heap.push S.obj).push T.obj).push U.obj).objs.size=s.heap.objs.size+3:=by rw[Heap.size_push,z2]
  have z4:((((s.heap.push S.obj).push T.obj).push U.obj).push {cls:=.type "tuple",data:=.seq #[.ref s.heap.objs.size,.ref (s.heap.push S.obj).objs.size,.ref ((s.heap.push S.obj).push T.obj).objs.size]}).objs.size=s.heap.objs.size+4:=by rw[Heap.size_push,z3]
  have z5:(ya s.heap S T U).objs.size=s.heap.objs.size+5:=by unfold ya;rw[Heap.size_push,z4]
  have k1:∀c o,(s.heap.push S.obj).get? c=some o->((ya s.heap S T U).push (Bl s.heap S T U)).get? c=some o:=fun c o e=>Mh _ (Mh _ (Mh _ (Mh _ (Mh _ e))))
  have g1:=k1 _ _ (Mq s.heap (o:=S.obj) (by cases S<;>rfl))
  have g2:((ya s.heap S T U).push (Bl s.heap S T U)).get? (s.heap.push S.obj).objs.size=some T.obj:=Mh _ (Mh _ (Mh _ (Mh _ (Mq _ (by cases T<;>rfl)))))
  have g2':((ya s.heap S T U).push (Bl s.heap S T U)).get? ((s.heap.push S.obj).push T.obj).objs.size=some U.obj:=Mh _ (Mh _ (Mh _ (Mq _ (by cases U<;>rfl))))
  have g3:((ya s.heap S T U).push (Bl s.heap S T U)).get? (((s.heap.push S.obj).push T.obj).push U.obj).objs.size=some _:=Mh _ (Mh _ (Mq _ rfl))
  have g4:((ya s.heap S T U).push (Bl s.heap S T U)).get? ((((s.heap.push S.obj).push T.obj).push U.obj).push {cls:=.type "tuple",data:=.seq #[.ref s.heap.objs.size,.ref (s.heap.push S.obj).objs.size,.ref ((s.heap.push S.obj).push T.obj).objs.size]}).objs.size=some _:=Mh _ (Mq _ rfl)
  have g5:((ya s.heap S T U).push (Bl s.heap S T U)).get? (ya s.heap S T U).objs.size=some _:=Mq _ rfl
  refine⟨⟨_,g5,rfl⟩,h _ _ _ _ _ _ _ ?_ g5 g3 g4 (Src.start g1) (Src.start g2) (Src.start g2') ?_ fun c o e=>k1 c o (Mh _ e)⟩
  · rw[z5,z4,z3,z2,z1]
    exact FU _
  · rw[z5,z4,z3,z2,z1]
    intro c hc
    simp only[Mu,List.not_mem_nil,or_false] at hc
    rcases hc with rfl | rfl | rfl | rfl | rfl | rfl
    · exact Nat.le_add_right _ 5
    · exact Nat.le_add_right _ 3
    · exact Nat.le_add_right _ 4
    · exact Mw _
    · exact Nat.le_add_right _ 1
    · exact Nat.le_add_right _ 2
end
noncomputable def JC(K:Mj)(S T U:Src):It:=⟨fun i H=>(∃v,S.go K i H v)/\(∃u,T.go K i H u)/\∃t,U.go K i H t,
 fun i H x H'=>∃a v u t,x=.ref a/\H a=none/\H'=upd H a (.tup [v,u,t])/\(∀v',S.go K i H v'->v'=v)/\(∀u',T.go K i H u'->u'=u)/\∀t',U.go K i H t'->t'=t,
 fun i H=>S.stop K i H⟩
theorem Ct{P:Mv}{w:MH}{K:Mj}{es:List MJ}{x1:_}{tp:Pos}{z TI TO i1 i2 i3:Ml}(S T U:Src)(D:FH z TI TO i1 i2 i3) :
  Turn P w K (.Tuple es x1 tp) (JC K S T U) [z,TI,TO,i1,i2,i3] z (fun i h=>IsZip h z TI TO .none/\qZ h TI (.ref i1) (.ref i2) (.ref i3)/\(∃a b c,qZ h TO a b c)/\S.at i1 i h/\T.at i2 i h/\U.at i3 i h) where
 mem:=M4
 obj:=fun i h ⟨q1,q2,⟨a,b,c,q3⟩,q4,q5,q6⟩ x hc=>by
  simp only[Mu,List.not_mem_nil,or_false] at hc
  rcases hc with rfl | rfl | rfl | rfl | rfl | rfl
  ·exact⟨_,q1,fun v e=>nomatch (show Data.fields _=Data.cell v from e)⟩
  ·exact⟨_,q2,fun v e=>nomatch (show Data.seq _=Data.cell v from e)⟩
  ·exact⟨_,q3,fun v e=>nomatch (show Data.seq _=Data.cell v from e)⟩
  ·exact Src.obj_at q4
  ·exact Src.obj_at q5
  ·exact Src.obj_at q6
 keep:=fun i h h' ⟨q1,q2,⟨a,b,c,q3⟩,q4,q5,q6⟩ k=>⟨k _ (by simp) _ q1,k _ (by simp) _ q2,⟨a,b,c,k _ (by simp) _ q3⟩,Src.keep q4 (k _ (by simp)),Src.keep q5 (k _ (by simp)),Src.keep q6 (k _ (by simp))⟩
 item:=by
  rintro X rfl rfl rfl hc i pins s σ H E I hf ⟨q1,q2,⟨a,b,c,q3⟩,q4,q5,q6⟩ ⟨⟨v,g1⟩,⟨u,g2⟩,⟨t,g3⟩⟩
  have cl:Cl (fun h tk=>L2.Inv X pins σ H (rF s h tk)) [z,TO,i1,i2,i3]:=fun c hc h tk h' tk' J k=>by
   obtain⟨f0,f1,f2,f3,f4,f5⟩:=hf c (by simp only[Mu,List.not_mem_nil,or_false] at hc ⊢;rcases hc with rfl | rfl | rfl | rfl | rfl<;>simp)
   exact J.turned (t':=tk') k f0 f1 f3 f4 f5
  obtain⟨f0,f1,f2,f3,f4,f5⟩:=hf z (by simp)
  refine ng (Good:=fun h tk=>L2.Inv X pins σ H (rF s h tk)) D q1 q2 q3 I cl (gj g1) (gj g2) (gj g3) q4 q5 q6 fun h5 tk u1 u2 u3 h8 G5 p1 p2 p3 z5 I5 O5 t1 t2 t3 z8 k8=>?_
  refine wpAny_letOwnedTupleGo_zip (s:=rF s h8 tk) z8 fun h9 z9 s9=>?_
  have hn:H h5.objs.size=none:=G5.hok.fresh (Mw _)
  have lt:∀{c o},h5.get? c=some o->c≠h5.objs.size:=fun e=>MM (MD e)
  have J6:L2.Inv X pins σ (upd H h5.objs.size (.tup [v,u,t])) {rF s h5 tk with heap:=h5.push {cls:=.type "tuple",data:=.seq #[u1,u2,u3]},toks:=tk}:=
   G5.laid (t':=tk) (fun b u e=>Mh _ e) (Mw _) ⟨show 3<=sizeLine by decide,[u1,u2,u3],.cons p1 (.cons p2 (.cons p3 .nil)),⟨_,Mq _ rfl,rfl,⟨_,rfl⟩,rfl⟩⟩
  have J8:L2.Inv X pins σ (upd H h5.objs.size (.tup [v,u,t])) (rF s h8 tk):=J6.turned (t':=tk) (fun b o n e=>k8 b o n e) (by rw[ar (lt z5)];exact f0) f1 f3 f4 f5
  have J9:L2.Inv X pins σ (upd H h5.objs.size (.tup [v,u,t])) (rF s h9 tk):=J8.turned (t':=tk) (fun b o n e=>s9.extBut b o n e) (by rw[ar (lt z5)];exact f0) f1 f3 f4 f5
  have up:∀c o,c≠z->h5.get? c=some o->h9.get? c=some o:=fun c o n e=>s9.extBut c o n (k8 c o n (Mh _ e))
  obtain⟨⟨a1,a2,a3,a4,a5⟩,_⟩:=D.all
  refine⟨.ref h5.objs.size,_,J9,rfl,⟨_,v,u,t,rfl,hn,rfl,fun v' q=>fM I g1 q,fun u' q=>fM I g2 q,fun t' q=>fM I g3 q⟩,⟨z9,up _ _ a1 I5,⟨u1,u2,u3,up _ _ a2 O5⟩,Src.keep t1 fun o=>up _ o a3,Src.keep t2 fun o=>up _ o a4,Src.keep t3 fun o=>up _ o a5⟩,fun c hc=>?_⟩
  have lv:∃o,h5.get? c=some o:=by
   simp only[Mu,List.not_mem_nil,or_false] at hc
   rcases hc with rfl | rfl | rfl | rfl | rfl | rfl
   ·exact⟨_,z5⟩
   ·exact⟨_,I5⟩
   ·exact⟨_,O5⟩
   ·obtain⟨o,e,_⟩:=Src.obj_at t1;exact⟨o,e⟩
   ·obtain⟨o,e,_⟩:=Src.obj_at t2;exact⟨o,e⟩
   ·obtain⟨o,e,_⟩:=Src.obj_at t3;exact⟨o,e⟩
  obtain⟨o,e⟩:=lv
  rw[ar (lt e)]
  exact(hf c hc).1
 done:=by
  rintro X rfl rfl rfl hc i pins s σ H E I hf ⟨q1,q2,⟨a,b,c,q3⟩,q4,q5,q6⟩ hg
  have cl:Cl (fun h tk=>L2.Inv X pins σ H (rF s h tk)) [z,TO,i1,i2,i3]:=fun c hc h tk h' tk' J k=>by
   obtain⟨f0,f1,f2,f3,f4,f5⟩:=hf c (by simp only[Mu,List.not_mem_nil,or_false] at hc ⊢;rcases hc with rfl | rfl | rfl | rfl | rfl<;>simp)
   exact J.turned (t':=tk') k f0 f1 f3 f4 f5
  exact nQ (Good:=fun h tk=>L2.Inv X pins σ H (rF s h tk)) (st1:=fun h=>S.at i1 i h) D q1 q2 I cl q4 (ln (I.ok.hd hc) hg) fun h' tk J=>⟨rfl,J⟩
 self:=fun _ _ _ _ _ st h=>wpAny_pyIter_zip st.1 h
theorem kr{K:Mj}{H:Hp}{xs ys zs:LD}{S T U:Src}(hl1:xs.length=ys.length)(hl2:xs.length=zs.length)(hS:CI K H xs S)(hT:CI K H ys T)(hU:CI K H zs U):sV K (JC K S T U) (uQ xs ys zs) H:=by
 refine⟨fun i d H2 k e=>?_,fun i H2 k hl=>?_⟩
 ·obtain⟨x,y,z,ex,ey,ez,rfl⟩:=yQ e
  obtain⟨v,g1,r1⟩:=zD hS k ex
  obtain⟨u,g2,r2⟩:=zD hT k ey
  obtain⟨t,g3,r3⟩:=zD hU k ez
  refine⟨⟨⟨v,g1⟩,⟨u,g2⟩,⟨t,g3⟩⟩,?_⟩
  rintro p H3 ⟨a,v',u',t',rfl,hn,rfl,w1,w2,w3⟩
  cases w1 v g1
  cases w2 u g2
  cases w3 t g3
  have s3:=bf hn (.tup [v,u,t])
  exact⟨s3,a,[v,u,t],rfl,uT.of ay,v,[u,t],rfl,r1.mono s3,u,[t],rfl,r2.mono s3,t,[],rfl,r3.mono s3,rfl⟩
 ·rw[wj hl1 hl2] at hl
  exact Cr hS k hl
section
variable{X:Cx}
theorem pe{es:List MJ}{x1:_}{tp:Pos}{a b c:MJ}{f g h:R->OD}{p pos:Pos}(hm:X.mg "zip" = none)(ha:SE X a f)(hb:SE X b g)(hc:SE X c h)(hg:Gl X "zip":=by rfl)(hs:noStar a=true:=by rfl)(hs2:noStar b=true:=by rfl)(hs3:noStar c=true:=by rfl) :
  SI X (.Tuple es x1 tp) (.Call (.Name "zip" p) [a,b,c] [] pos) (Dy f g h):=by
 have z3:=aE [] X.env hs3
 have z2:=aE [c] X.env hs2
 have z1:=aE [b,c] X.env hs
 intro pins s σ H W I ⟨ρ,ds,er,e,q⟩
 obtain⟨x,e1,e⟩:=i9 e
 obtain⟨y,e2,e⟩:=i9 e
 obtain⟨zz,e3,e⟩:=i9 e
 obtain⟨xs,e4,e⟩:=i9 e
 obtain⟨ys,e5,e⟩:=i9 e
 obtain⟨zs,e6,e⟩:=i9 e
 split at e
 case isFalse=>cases e
 case isTrue hl =>
 cases e
 have PAA:=(ac ha (ac hb (ac hc af hs3) hs2) hs).1
 refine Call_ (cT I hg hm (u:=.type "zip") (by kernel_rfl) (PyProof.Rows.callWith_type1 (qW (PAA pos pins s σ H (fun vs H1=>l0 H H1/\k9 X.K H1 [x,y,zz] vs) I
  ⟨ρ,[x,y,zz],er,by show(f ρ).bind _=_;rw[e1];show((g ρ).bind _).map _=_;rw[e2];show(((h ρ).bind _).map _).map _=_;rw[e3];rfl,fun vs H1 s1 r1=>⟨s1,r1⟩⟩) fun us s1 ⟨vs,H1,I1,r1,sm,q1⟩=>?_) (by rw[z1,z2,z3]) (by rw[z2,z3];rfl)))
 obtain⟨v,r,rfl,r2,r3⟩:=q1
 obtain⟨u,r',rfl,r4,r5⟩:=r3
 obtain⟨t,r'',rfl,r6,r7⟩:=r5
 cases (show r''=_ from r7)
 cases r1 with
 | cons ra rr =>
  cases rr with
  | cons rb rr =>
   cases rr with
   | cons rc rr =>
    cases rr
    obtain⟨S,rfl,okS,dS⟩:=lE I1 e4 r2 ra
    obtain⟨T,rfl,okT,dT⟩:=lE I1 e5 r4 rb
    obtain⟨U,rfl,okU,dU⟩:=lE I1 e6 r6 rc
    refine mR okS okT okU fun h' z TI TO i1 i2 i3 D hz hI hO sS sT sU new kept=>?_
    refine wpAny_pyIter_zip (s:={s1 with heap:=h' }) hz ?_
    refine⟨z,[z,TI,TO,i1,i2,i3],_,_,H1,rfl,I1.kept (t':=s1.toks) kept,Ct S T U D,⟨hz,hI,⟨_,_,_,hO⟩,sS,sT,sU⟩,fun c hc=>I1.fpOk (new c hc) (I1.hok.fresh (new c hc)),q _ H1 sm (kr hl.1 hl.2 dS dT dU)⟩
end
structure LF (B:MI) (l:List Env) (e C:Ml) (h:MI):Prop where
 st:B.StaysIn h
 ne:B.get? e=none
 fr:h.FunFrames B l
 tr:∃a0 fl,h.TracedAtW B e (.ref C) a0 fl
section
variable{M:Model}{A:MQ}{E:Mg->Mi->Prop}{s:Mi}{B:MI}{env env':Env}{outer:List Env}{L e C:Ml}{Q:Unit->Mi->Prop}
end
def KL(P:Mv)(w:MH):Bq:=fun outer H s E ev s'=>∃e C B H',ev=.ref e/\s'.os=s.os/\AllBare s'.gens/\LF B outer e C s'.heap/\Un (AL outer) [] H H' s.heap s'.heap/\xl P w H' s'.heap /\
 (∀b o,s.heap.get? b=some o->b∉AL outer->∃o',B.get? b=some o')/\(∀b u,H' b=some u->∃o',B.get? b=some o')/\l0 H H'/\E (.ref C) none H'
section
variable{X:Cx}{pins:List (Ml×Obj)}{σ:L2.St}{H H':Hp}{s s':Mi}{e C:Ml}
end
section
variable{P:Mv}{w:MH}{K:Mj}{mg:Str->Me Mg}{base:MI}{N:List Str}{qual:Str}{scope:Scope}{f:Ml}{cd:Mg}{A:MQ}{outer:List Env}{s:Mi}{H H':Hp}{E:XK}{C:Ml}
end
section
variable{X:Cx}{pins:List (Ml×Obj)}{σ:L2.St}{H H':Hp}{s s':Mi}{e C:Ml}{B h':MI}
end
abbrev VE:List Mg:=[.type "ValueError",.type "Exception",.type "BaseException",.type "object"]
def LE:List Str:=["__init__","__getattribute__","__getattr__","__class__"]
def Il(K:Mj)(C:Ml)(bm:List Mg)(newId:String):Prop:=
 ∃N nm q bs hdct sn sub ab col dd k0 k1 k2 k3 k5 mN,(∀n∈LE,mN n=none)/\∀h,K.In h->h.get? C=some (excClassObj nm q C N bs bm hdct sn sub ab col dd k0 k1 k2 k3 k5 newId)/\h.Ns N mN
structure Lw (K:Mj) (C Wz:Ml) (newId nW:String):Prop where
 own:Il K C (.ref Wz::VE) newId
 base:Il K Wz VE nW
theorem Lw.tail{K:Mj}{C Wz:Ml}{newId nW:String}(T:Lw K C Wz newId nW){h:MI}(x:K.In h):OwnTail h VE (.ref Wz::VE):=by
 obtain⟨N,nm,q,bs,hdct,sn,sub,ab,col,dd,k0,k1,k2,k3,k5,mN,hq,hh⟩:=T.base
 exact .own (hh h x).1 (hh h x).2 (hq _ (.head _)) .base
section
variable{P:Mv}{w:MH}{K:Mj}{mg:Str->Me Mg}{base:MI}{N:List Str}{qual:Str}{scope:Scope}{f:Ml}{cd:Mg}{A:MQ}{outer:List Env}{s:Mi}{H H':Hp}{E:XK}{C:Ml}
end
section
variable(cl:Nat->Ml)
def LO(K:Mj)(F:LD->Me (Except Nat D)):Sp:=fun vs H Q E=>∃ds r,k9 K H ds vs/\F ds=some r/\match r with
 | .ok d=>∀v H',l0 H H'->Rep K H' d v->Q v H'
 | .error c=>∀H',l0 H H'->E (.ref (cl c)) none H'
end
section
variable{X:Cx}{cl:Nat->Ml}{e:MJ}{es:List MJ}{st:ML}{sts:List ML}{pos p:Pos}{f:R->OD}{fx:XD}{g:XO}{u:R->Me Out}
structure CL (P:Mv) (w:MH) (K:Mj) (mg:Str->Me Mg) (base:MI) (cl:Nat->Ml) (k:Nat) (x:Str) (ps:List Str) (F:LD->Me (Except Nat D)):Prop where
 ex:∃f fd,l7 P w K mg base (KL P w) k f fd ps (LO cl K F)/\mg x=some (.ref f)/\W.keepIn K (.ref f)=true/\Binds K fd ps []
theorem CL.mono{P:Mv}{w:MH}{K:Mj}{mg:Str->Me Mg}{base:MI}{j k:Nat}{x:Str}{ps:List Str}{F:LD->Me (Except Nat D)}(h:CL P w K mg base cl j x ps F)(hk:j<=k):CL P w K mg base cl k x ps F:=by
 obtain⟨f,fd,a,b⟩:=h.ex
 exact⟨f,fd,a.mono hk,b⟩
theorem CL.m{P:Mv}{w:MH}{K:Mj}{mg:Str->Me Mg}{base:MI}{j k:Nat}{x:Str}{ps:List Str}{F:LD->Me (Except Nat D)}(h:CL P w K mg base cl j x ps F)(hk:j<=k:=by decide):CL P w K mg base cl k x ps F:=h.mono hk
end
structure DB where
 c:Ml
 P:Ml
 q:Str
section
variable{X:Cx}{pins:List (Ml×Obj)}{σ:L2.St}{H:Hp}{s:Mi}
abbrev IH(o:Obj):HO:=.frz o (.ext fun _=>True)
end
theorem yV{α:Type}:∀{l:List (Str×α)} {x:Str} {u:α},(l.map (·.1)).Nodup->(x,u)∈l->l.lookup x=some u
 | (y,v)::l,x,u,nd,h=>by
  rw[M9,List.nodup_cons] at nd
  rw[List.lookup_cons]
  rcases Mu.mp h with e | h
  ·cases e;simp
  ·have hn:(x==y)=false:=M8.mpr fun z=>nd.1 (List.mem_map.mpr ⟨(x,u),h,z⟩)
   rw[hn]
   exact yV nd.2 h
def LB(cl:List (Str×Ml))(b:Ml):Bool:=cl.any fun p=>p.2==b
def zf(H:Hp)(N ps:List Str)(cl:List (Str×Ml))(caps:List V):Prop:=
 caps.length=N.length - ps.length/\(∀b,LB cl b=true->∃o u,H b=some (IH o)/\o.data=.cell (some u))/\∀(i:Nat) (x:Str) (v:V),(N.drop ps.length)[i]?=some x->caps[i]?=some v->∃c o u,cl.lookup x=some c/\H c=some (IH o)/\o.data=.cell (some u)/\RelV v u
theorem zf.to{H H':Hp}{N ps:List Str}{cl:List (Str×Ml)}{caps:List V}(h:zf H N ps cl caps)(s:∀b o,H b=some (IH o)->H' b=some (IH o)):zf H' N ps cl caps:=by
 obtain⟨h1,h2,h3⟩:=h
 refine⟨h1,fun b hb=>?_,fun i x v q1 q2=>?_⟩
 ·obtain⟨o,u,e,d⟩:=h2 b hb
  exact⟨o,u,s b o e,d⟩
 ·obtain⟨c,o,u,e1,e2,r⟩:=h3 i x v q1 q2
  exact⟨c,o,u,e1,s c o e2,r⟩
end HW
namespace HW
open PySem
open Sem (wp)
section
variable{prog:Mv}{w:MH}{A:MQ}{E:Mg->Mi->Prop}{h:MI}{g:Array GenState}{d:Drawn}{t:Nat}{os:OsState}{a:Ml}{o:Obj}{tk:Tok}
end
open Sem (wp)
section
variable{M:Model}{A:MQ}{E:Mg->Mi->Prop}{h:MI}{g:Array GenState}{d:Drawn}{t:Nat}{os:OsState}{K:Mj}{C Wz:Ml}{newId nW:String}
end
section
variable{prog:Mv}{w:MH}{A:MQ}{E:Mg->Mi->Prop}{h:MI}{g:Array GenState}{d:Drawn}{t:Nat}{os:OsState}{a:Ml}{o:Obj}{tk:Tok}{K:Mj}{C Wz:Ml}{newId nW:String}
end
end HW
namespace HW
open PySem PySem.Spec PyProof.Rows L2
section
variable{X:Cx}{pins pins':List (Ml×Obj)}{σ:L2.St}{H:Hp}{s:Mi}{E:Mg->Mi->Prop}{e:Ml}{oe:Obj}
end
section
variable{M:Model}{A:MQ}{E:Mg->Mi->Prop}{h:MI}{g:Array GenState}{d:Drawn}{t:Nat}{os:OsState}{K:Mj}{C Wz e:Ml}{newId nW:String}{oe:Obj}
end
section
variable{X:Cx}{ca:Nat->Ml}{Wz:Ml}{newId nW:String}{x n:Str}{np apos hpos pos:Pos}{tg e0:MJ}{b₀:ML}{suite:List ML}{fx:XD}{stf:D->R->Me R}{gs:Nat->Nat->R->Me Out}
end
section
variable{X:Cx}{pos:Pos}{C:Nat}{f:Str}
theorem DW{g:MU}{F:R->Me LD}{ps:List Str}{NI:Nat}{ρ:R}{σ:L2.St}{H:Hp}{ds:LD}{Q:VK}(hn:ds.length+1=ps.length)(er:qV X.K H ρ σ)(e1:F ρ=some ds)(hw:∀a,H a=none->∃l ob,uZ NI C f g ds a l=some ob)
  (q:∀a l ob H',H a=none->H l=none->a≠l->uZ NI C f g ds a l=some ob->l0 H H'->Rep X.K H' ob (.ref a)->qN [a,l] H'->Q (.ref a) H'):Do C (HV X.K ps.length NI C f g) [] E0 (HU X.K F) σ H Q:=by
 refine⟨ρ,ds,er,e1,fun vs H1 s1 r1 a dx ha0 hdx hne=>?_⟩
 rw[M5]
 have sn:l0 H1 (upd (upd H1 dx (.own a)) a (.ins C dx [])):=(bf hdx _).trans (bf (by rw[ar (Ne.symm hne)];exact ha0) _)
 have hHa:H a=none:=by
  cases hb:H a with
  | none=>rfl
  | some u=>rw[s1 a u hb] at ha0;cases ha0
 refine⟨a,ds,hn,⟨.ref a,vs,rfl,⟨[],rfl,⟨rfl,dx,ay⟩,rfl⟩,r1.mono sn⟩,fun l=>?_,fun l ob H' hl hmk kq ro=>⟨rfl,q a l ob H' hHa ?_ ?_ hmk ?_ ro ?_⟩⟩
 ·obtain⟨_,ob,h1⟩:=hw a hHa
  exact CH h1 l
 ·cases hb:H l with
  | none=>rfl
  | some u=>rw[sn l u (s1 l u hb)] at hl;cases hl
 ·intro z;rw[<- z,ay] at hl;cases hl
 ·intro b u hb
  have hba:b≠a:=fun z=>by rw[z,hHa] at hb;cases hb
  exact kq b u (fun z=>hba (Mr.mp z)) (sn b u (s1 b u hb))
 ·have:=xw ro
  rw[Es hmk] at this
  exact this
end
section
variable{X:Cx}{pos p:Pos}{e:MJ}{es:List MJ}{k i:Nat}{f c':Ml}{G:LD->OD}{F:R->Me LD}{name qual:Str}{params:Arguments}{body:MJ}{scope:Scope}{cl:List (Str×Ml)}{pm ctv:Mg}{ps:List Str}
end
section
variable{X:Cx}{pins:List (Ml×Obj)}{σ:L2.St}{H:Hp}{s:Mi}{pos:Pos}
end
section
variable{X:Cx}{pins:List (Ml×Obj)}{σ:L2.St}{H Hp':Hp}{s:Mi}{pos:Pos}
structure Ij (X:Cx) (cl:List (Str×Ml)):Prop where
 fn:∀x,X.fn x=true
 ndc:(cl.map (·.1)).Nodup
 of:∀x c,cl.lookup x=some c->X.env.cells.lookup x=some c/\X.env.scope.names.lookup x=some .cell
theorem Ij.lk{cl:List (Str×Ml)}(o:Ij X cl):∀b,LB cl b=true->∃x,X.env.cells.lookup x=some b:=fun b hb=>by
 obtain⟨p,hp,e⟩:=List.any_eq_true.mp hb
 exact⟨p.1,(o.of p.1 b (yV o.ndc (by rw[<- NF e];exact hp))).1⟩
end
section
variable{K:Mj}{H H':Hp}
end
section
variable{P:Mv}{w:MH}{K:Mj}{mg:Str->Me Mg}{base:MI}{N ps:List Str}{qual:Str}{scope:Scope}{cl:List (Str×Ml)}{f:Ml}{cd:Mg}{A:MQ}{outer:List Env}{s:Mi}{H H2:Hp}{E:XK}{C:Ml}{caps:List V}
end
section
variable{X:Cx}{ca:Nat->Ml}{pos p:Pos}{k:Nat}{f c':Ml}{name qual:Str}{params:Arguments}{body:MJ}{scope:Scope}{cl:List (Str×Ml)}{pm ctv:Mg}{ps:List Str}
end
section
variable{X:Cx}{ca:Nat->Ml}{Wz:Ml}{newId nW:String}{x n:Str}{np apos hpos pos:Pos}{b₀:ML}{suite:List ML}{gs:Nat->Nat->R->Me Out}
end
section
variable{X:Cx}
end
section
variable{X:Cx}{ca:Nat->Ml}{Wz:Ml}{e:MJ}{es:List MJ}{f:R->OD}{F:R->Me LD}{p pos np cpos:Pos}
end
section
variable{X:Cx}{ca:Nat->Ml}{Wz:Ml}{n y:Str}{np apos hpos pos rp yp:Pos}{tg e0:MJ}{b₀:ML}{suite:List ML}{fx:XD}{stf:D->R->Me R}{gs:Nat->Nat->R->Me Out}
end
section
variable{X:Cx}{k1 k2 v1 v2:Str}{ke1 ke2 e1 e2 i:MJ}{g:R->OD}{pd pos:Pos}
end
section
variable{K:Mj}{H:Hp}
end
def AC(K:Mj)(H:Hp)(ob:D)(Q:VK)(Er:Nat->Hp->Prop):Except Nat (D×D)->Prop
 | .ok (d,o')=>∀v H',rH (adr ob) H H'->qN (adr ob) H'->Rep K H' d v->Rep K H' o' (.ref (sR ob))->Q v H'
 | .error c=>∀H',l0 H H'->Er c H'
theorem AC.imp{K:Mj}{H:Hp}{ob:D}{Q Q':VK}{Er Er':Nat->Hp->Prop}{r:Except Nat (D×D)}(h:AC K H ob Q Er r)(h1:∀v H',Q v H'->Q' v H')(h2:∀c H',Er c H'->Er' c H'):AC K H ob Q' Er' r:=by
 match r,h with
 | .ok (d,o'),h=>exact fun v H' a b c e=>h1 _ _ (h v H' a b c e)
 | .error c,h=>exact fun H' s=>h2 _ _ (h H' s)
section
variable(ca:Nat->Ml)
def Lb(K:Mj)(n:Nat)(G:LD->Me (Except Nat (D×D))):Sp:=fun vs H Q E=>∃ob ds r,(ob::ds).length=n/\k9 K H (ob::ds) vs/\tU ob=true/\G (ob::ds)=some r/\AC K H ob Q (fun c H'=>E (.ref (ca c)) none H') r
structure E9 (P:Mv) (w:MH) (K:Mj) (mg:Str->Me Mg) (base:MI) (k C:Nat) (m:Str) (ps:List Str) (G:LD->Me (Except Nat (D×D))):Prop where
 ex:∃f fd,l7 P w K mg base (KL P w) k f fd ps (Lb ca K ps.length G)/\zX K C m f/\Binds K fd ps []
end
theorem E9.m{ca:Nat->Ml}{P:Mv}{w:MH}{K:Mj}{mg:Str->Me Mg}{base:MI}{k k' C:Nat}{x:Str}{ps:List Str}{G:LD->Me (Except Nat (D×D))}(h:E9 ca P w K mg base k C x ps G)(hk:k<=k':=by decide):E9 ca P w K mg base k' C x ps G:=by
 obtain⟨f,fd,a,b⟩:=h.ex
 exact⟨f,fd,a.mono hk,b⟩
section
variable{X:Cx}{ca:Nat->Ml}{pos apos:Pos}{k C:Nat}{mn x:Str}{ps:List Str}{G:LD->Me (Except Nat (D×D))}
end
def DQ(ca:Nat->Ml)(K:Mj)(t:FL)(j:Nat)(g:MX)(f c':Ml)(cl:List (Str×Ml))(pm ctv:Mg):Sp:=fun vs H Q E=>vs=[]/\H f=some (IH (W.kla_obj "<lambda>" t.q t.params t.body t.scope cl pm c' ctv))/\H c'=some (.tbl t.q true) /\
 ∃caps ds ob r,zf H t.N t.ps cl caps/\k9 K H ds caps/\ds[j]?=some ob/\tU ob=true/\g (ds.map some)=some r/\AC K H ob Q (fun c H'=>E (.ref (ca c)) none H') r
section
variable(ca:Nat->Ml)
end
section
variable{X:Cx}{ca:Nat->Ml}{pos:Pos}
end
def GO(P:Mv)(w:MH)(K:Mj)(mg:Str->Me Mg)(base:MI)(ca:Nat->Ml)(k:Nat)(fnd:Nat->OD):Sp:=fun vs H Q _=>∃(t:FL) (j:Nat) (g:MX) (f c':Ml) (cl:List (Str×Ml)) (pm ctv:Mg),vs=[.ref f]/\t.ps=[] /\
 l7 P w K mg base (KL P w) k f (W.kla_fn "<lambda>" t.q t.params t.body t.scope cl pm (.ref c') ctv) t.ps (DQ ca K t j g f c' cl pm ctv)/\Binds K (W.kla_fn "<lambda>" t.q t.params t.body t.scope cl pm (.ref c') ctv) t.ps [] /\
 DQ ca K t j g f c' cl pm ctv [] H (fun v H1=>∀p,H1 p=none->Q (.ref p) (upd H1 p (.tup [.str IP,v]))) (fun Cv _ H1=>∃c d,Cv=.ref (ca c)/\fnd c=some d/\∀v H2,l0 H1 H2->Rep K H2 d v->Q v H2)
theorem DQ.imp{ca:Nat->Ml}{K:Mj}{t:FL}{j:Nat}{g:MX}{f c':Ml}{cl:List (Str×Ml)}{pm ctv:Mg}{vs:List V}{H:Hp}{Q Q':VK}{E E':XK}(h:DQ ca K t j g f c' cl pm ctv vs H Q E)(h1:∀v H',Q v H'->Q' v H')(h2:∀c H',E (.ref (ca c)) none H'->E' (.ref (ca c)) none H'):DQ ca K t j g f c' cl pm ctv vs H Q' E':=by
 obtain⟨a,b,c,caps,ds,ob,r,d,e,f1,g1,h3,q⟩:=h
 exact⟨a,b,c,caps,ds,ob,r,d,e,f1,g1,h3,q.imp h1 h2⟩
section
variable{X:Cx}{ca:Nat->Ml}{Wz:Ml}{y n dn:Str}{np dp cp tp yp yp2 rp lp apos hpos pos:Pos}{b₀:ML}{suite:List ML}{gs:Nat->Nat->R->Me Out}{k:Nat}{x1:_}{js1:_}
end
structure zE (P:Mv) (w:MH) (K:Mj) (mg:Str->Me Mg) (base:MI) (ca:Nat->Ml) (k k0:Nat) (x:Str) (ps:List Str) (fnd:Nat->OD):Prop where
 ex:∃f fd,l7 P w K mg base q8 k f fd ps (GO P w K mg base ca k0 fnd)/\mg x=some (.ref f)/\W.keepIn K (.ref f)=true/\Binds K fd ps []
theorem zE.m{P:Mv}{w:MH}{K:Mj}{mg:Str->Me Mg}{base:MI}{ca:Nat->Ml}{k k' k0:Nat}{x:Str}{ps:List Str}{fnd:Nat->OD}(h:zE P w K mg base ca k k0 x ps fnd)(hk:k<=k':=by decide):zE P w K mg base ca k' k0 x ps fnd:=by
 obtain⟨f,fd,a,b⟩:=h.ex
 exact⟨f,fd,a.mono hk,b⟩
section
variable{X:Cx}{ca:Nat->Ml}{pos p lpos:Pos}{k k0:Nat}{told:Str}{ps:List Str}{t:FL}{ct:DB}{cl:List (Str×Ml)}{js:List Nat}{j:Nat}{g:MX}{fnd:Nat->OD}
end
section
variable{X:Cx}{pos:Pos}
end
def Ll(X:Cx)(c:List Nat->R->Me (D×R))(S:List Nat):TE:=fun σ H Q=>∃ ρ τ d ρ',qP X.K H ρ τ σ/\qN S H/\c S ρ=some (d,ρ')/\∀v H',rH S H H'->qN S H'->Rep X.K H' d v->qP X.K H' ρ' τ σ->Q v H'
section
variable{X:Cx}{pos p:Pos}{x:Str}{e:MJ}{es:List MJ}{F:R->Me LD}{G:LD->Me (D×D)}{k j:Nat}{ps:List Str}
theorem nO(i:Nat)(C:Ck X.prog X.w X.K X.mg X.base k x ps j G)(hr:ri k X.A)(ha:SA X (e::es) F)(hF:∀ ρ ds ob,F ρ=some ds->i5 i ρ=some ob->ds[j]?=some ob)(hg:Gl X x:=by rfl)(hdb:(x==("__debug__" : Str))=false:=by decide) :
  ∀S,PE X (.Call (.Name x p) (e::es) [] pos) (Ll X (As i G F) S):=by
 have hst:=ha.2.2
 rw[Ng,Mp] at hst
 have he:=aE es X.env hst.1
 have hpl:=cu (pos:=pos) (env:=X.env) hst.2
 obtain⟨f,fd,a,m,kp,bd⟩:=C.ex
 exact fun S=>(jO a hr hg m kp bd .nil wZ ha.1 hdb he hpl).imp fun σ H Q ⟨ρ,τ,d,ρ',er,m,e,q⟩=>nX hF er m e q
end
section
variable{X:Cx}{ca:Nat->Ml}{Wz:Ml}{newId nW:String}{x:Str}{np apos hpos pos:Pos}{b₀:ML}{suite:List ML}{gs:Nat->R->Me Out}
end
section
variable{X:Cx}{ca:Nat->Ml}{Wz:Ml}{y dn:Str}{np dp cp tp yp yp2 rp lp apos hpos pos:Pos}{b₀:ML}{suite:List ML}{gs:Nat->R->Me Out}{k:Nat}{x1:_}{js1:_}
end
theorem qu{P:Mv}{w:MH}{K:Mj}{mg:Str->Me Mg}{base:MI}{CX:Bq}{k:Nat}{f:Ml}{fd:Nl}{ps:List Str}{sp:Sp}(h:l7 P w K mg base q8 k f fd ps sp):l7 P w K mg base CX k f fd ps sp:=
 ⟨h.len,fun A outer s H args us vs Q E hr e b v q=>codeAny_mono (h.run A outer s H args us vs Q E hr e b v q) fun r s' z=>by
  match r,z with
  | .ok (.ret u),z=>exact z
  | .error e,z=>exact False.elim z⟩
theorem u5.x{ca:Nat->Ml}{P:Mv}{w:MH}{K:Mj}{mg:Str->Me Mg}{base:MI}{k C:Nat}{m:Str}{ps:List Str}{G:LD->Me (D×D)}(h:u5 P w K mg base k C m ps G):E9 ca P w K mg base k C m ps (fun ds=>(G ds).map .ok):=by
 obtain⟨f,fd,F,hm,b⟩:=h.ex
 refine⟨f,fd,(qu F).imp fun vs H Q E ⟨ob,ds,r,hl,rr,ho,e,q⟩=>?_,hm,b⟩
 obtain⟨⟨d,o'⟩,e1,e2⟩:=rm e
 subst e2
 exact⟨ob::ds,ob,d,o',rr,rfl,ho,e1,q⟩
theorem AC.same{K:Mj}{H H1:Hp}{ob:D}{Q:VK}{Er:Nat->Hp->Prop}{r:Except Nat (D×D)}(s:l0 H H1)(h:AC K H ob Q Er r):AC K H1 ob Q Er r:=by
 match r,h with
 | .ok (d,o'),h=>exact fun v H' a b c e=>h v H' ((rH.of s).trans a) b c e
 | .error c,h=>exact fun H' s'=>h H' (s.trans s')
section
variable{X:Cx}{ca:Nat->Ml}{pos apos:Pos}{k C:Nat}{mn x:Str}{ps:List Str}{G:LD->Me (Except Nat (D×D))}{e:MJ}{es:List MJ}{F:R->Me LD}
end
section
variable{X:Cx}{pos:Pos}{c:MC}{u w:MU}
end
def Ks(K:Mj)(j:Nat)(G:LD->Me (D×D))(t:DB):Sp:=fun vs H Q E=>H t.P=some (.tbl t.q false)/\CY K j G vs H Q E
structure Ek (P:Mv) (w:MH) (K:Mj) (mg:Str->Me Mg) (base:MI) (k:Nat) (x:Str) (ps:List Str) (j:Nat) (G:LD->Me (D×D)) (t:DB):Prop where
 ex:∃f fd,l7 P w K mg base q8 k f fd ps (Ks K j G t)/\mg x=some (.ref f)/\W.keepIn K (.ref f)=true/\Binds K fd ps []
theorem Ek.m{P:Mv}{w:MH}{K:Mj}{mg:Str->Me Mg}{base:MI}{k k' j:Nat}{x:Str}{ps:List Str}{G:LD->Me (D×D)}{t:DB}(h:Ek P w K mg base k x ps j G t)(hk:k<=k':=by decide):Ek P w K mg base k' x ps j G t:=by
 obtain⟨f,fd,a,b⟩:=h.ex
 exact⟨f,fd,a.mono hk,b⟩
section
variable{X:Cx}{pos p:Pos}{x:Str}{e:MJ}{es:List MJ}{F:R->Me LD}{G:LD->Me (D×D)}{k j:Nat}{ps:List Str}{t:DB}
end
section
variable{X:Cx}{pins:List (Ml×Obj)}{σ:L2.St}{H:Hp}{s:Mi}{T:List Str}{scope:Scope}
theorem my{elt iter tg:MJ}{pos:Pos}{it:Ml}{fp:List Ml}{tn:Nat->MI->Prop}{J:It}{E:Mg->Mi->Prop}{ρ:R}{ds:LD}{stf:D->R->Me R}{tE:TE}{PD:Nat->List V->Hp->Prop}
  (I:L2.Inv X pins σ H s) (hc:X.calm=true) (Tn:Turn X.prog X.w X.K tg J fp it tn) (st:tn 0 s.heap) (hf:∀b∈fp,uB X pins H b)
  (ck:xE scope X.env.scope T X.N) (hnd:(T++X.N).Nodup) (hst:xc T.length stf) (er:qV X.K H ρ σ) (y:sV X.K J ds H) (hz:ds.length<=sizeLine) (hsts:∀d∈ds,∃ ρ1,stf d (List.replicate T.length none++ρ)=some ρ1)
  (hg:∀C s₃ H₃ fp,SG (uU X T scope C fp s₃ H₃) tg stf) (he:∀C s₃ H₃ fp,PE (uU X T scope C fp s₃ H₃) elt tE)
  (p0:PD 0 [] H) (pm:∀i vs H1 H2,PD i vs H1->l0 H1 H2->PD i vs H2) (pl:∀i vs H1,PD i vs H1->vs.length<=i)
  (ps:∀i d ρ1 vs σ' H',ds[i]?=some d->stf d (List.replicate T.length none++ρ)=some ρ1->qV X.K H' ρ1 σ'->PD i vs H'->tE σ' H' fun v H5=>l0 H' H5/\PD (i+1) (vs++[v]) H5)
  {RR:Mg->Ml->Result->Mi->Prop}
  (hRR:∀(a C:Ml) (H':Hp) (s':Mi) (vs:List V),l0 H H'->H' a=some (.lst vs)->PD ds.length vs H'->L2.Inv X pins σ H' s'->uB X pins H' C->(∃m,s'.heap.Ns C m)->RR (.ref a) C (.ok .next) s') :
  wpAny (model X.prog X.w) X.A (newList []) (fun acc s₃=>wpAny (model X.prog X.w) X.A (newFunctionEnv scope X.env.globals (si scope.names X.env.cells []) [] X.env.qual none .none (some X.env)) (fun cenv s₄ =>
   codeAny (model X.prog X.w) X.A (.compStart (.ListComp elt [⟨tg,iter,[],0⟩] scope pos) 0 (.ref it) acc {cenv with scope:=relabel scope X.env}) (RR acc cenv.locals) s₄) E s₃) E s:=by
 refine Nf (wpAny_newFunctionEnv ck.nocell (by intro y hy;simp at hy) (fun h₁ hns₁ hsb₁=>?_) ck.kind)
 dsimp only at hns₁ hsb₁ ⊢
 generalize hH2:s.heap.push {cls:=.type "list",dict:=none,data:=.seq ([]:List Mg).toArray}=H2 at hns₁ hsb₁ ⊢
 generalize ha:s.heap.objs.size=a at *
 generalize hCe:H2.objs.size=C at hns₁ hsb₁ ⊢
 have hC:C=a+1:=by rw[<- hCe,<- hH2,Heap.size_push,ha]
 have haC':a<C:=by rw[hC];exact Nv a
 have haC:a≠C:=MM haC'
 have hle:s.heap.objs.size<=a:=Nat.le_of_eq ha
 have hCle:s.heap.objs.size<=C:=MN hle (Nat.le_of_lt haC')
 have hlta:∀{b:Ml} {o:Obj},s.heap.get? b=some o->b<a:=fun e=>MB (MD e) hle
 have old:∀b o,s.heap.get? b=some o->h₁.get? b=some o:=fun b o e=>hsb₁.extBut b o (MM (Nat.lt_trans (hlta e) haC')) (Mh _ (hH2 ▸ Mh _ e))
 have hacc:h₁.get? a=some {cls:=.type "list",data:=.seq ([]:List Mg).toArray}:=hsb₁.extBut _ _ haC (Mh _ (hH2 ▸ (ha ▸ Mq _ rfl)))
 have hfo:∀b∈fp,∃o,s.heap.get? b=some o:=fun b hb=>let ⟨o,e,_⟩:=Tn.obj 0 _ st b hb;⟨o,e⟩
 have hlt:∀b∈fp,b<a:=fun b hb=>let ⟨o,e⟩:=hfo b hb;hlta e
 have hns:h₁.Ns C (fun _=>none):=hns₁
 have I0:L2.Inv (uU X T scope C fp s H) [] (List.replicate T.length none++σ) H {s with heap:=h₁,toks:=s.toks+([]:List (Str×Mg)).length}:=An I ck hnd hf hfo hCle old hns
 have hcl:∀y c,(si scope.names X.env.cells []).lookup y=some c->X.env.cells.lookup y=some c:=wy scope.names [] fun y c h=>by cases h
 have hfs:∀b,a<=b->b∉AL X.stack:=fun b hb hz=>by
  rcases Mu.mp (I.stkSub b hz) with z | z
  ·exact MY (MB I.lt (MN hle (z ▸ hb))) (Ni _)
  ·exact I.nofs (MN hle hb) z
 have hcells:∀b,a<=b->∀x c,(si scope.names X.env.cells []).lookup x=some c->c≠b:=fun b hb x c h z=>by
  obtain⟨v,q⟩:=I.cell x c (hcl x c h)
  exact MY (MB q.lt (MN hle (z ▸ hb))) (Ni _)
 have hfpok:∀{H':Hp} {pl:List (Ml×Obj)},(∀b∈fp,H' b=none)->(∀p∈pl,p.1∉fp)->∀b∈fp,uB (uU X T scope C fp s H) pl H' b:=fun {H' pl} hn hp b hb =>
  BR (.inl hb) (MM (Nat.lt_trans (hlt b hb) haC')) (I0.ok.exfs b hb) (fun x c h=>(I0.ok.exf b hb).2 x c h) (hn b hb) fun p hp' z=>hp p hp' (z ▸ hb)
 have hAok:∀{H':Hp},H' a=none->∀b ∈ [a],uB (uU X T scope C fp s H) [] H' b:=fun {H'} hn b hb=>by
  cases Mr.mp hb
  exact BR (.inr hle) haC (hfs a (Mw _)) (hcells a (Mw _)) hn fun p hp=>MY hp (by simp)
 have hAfp:a∉fp:=fun z=>Ni _ (hlt a z)
 have loop:codeAny (model X.prog X.w) X.A (.compLoop (.ListComp elt [⟨tg,iter,[],0⟩] scope pos) 0 (.ref it) (.ref a) (compEnvC scope (si scope.names X.env.cells []) C X.env))
   (RR (.ref a) C) {s with heap:=h₁,toks:=s.toks+([]:List (Str×Mg)).length}:=by
  refine we (fun n s'=>∃i σ' H' vs its k,n=ds.length - i/\i<=ds.length/\L2.Inv (uU X T scope C fp s H) [] σ' H' s'/\tn i s'.heap/\(∀b∈fp,H' b=none)/\H' a=none/\l0 H H' /\
   s'.heap.get? a=some {cls:=.type "list",data:=.seq (its:List Mg).toArray k}/\m8 vs its/\PD i vs H'/\qV X.K H' (List.replicate T.length none++ρ) σ') ?_ ds.length
   ⟨0,_,H,[],[],0,by omega,M_ _,I0,Tn.keep _ _ _ st (fun b hb o e=>old b o e),fun b hb=>(hf b hb).1,I.hok.fresh hle,l0.refl H,hacc,.nil,p0,er.front T.length (List.replicate T.length none) (by simp)⟩
  rintro n s' ⟨i,σ',H',vs,its,k,rfl,hi,I',st',hn',hna,sm,ho,hv,hpd,er'⟩
  have Ip:=I'.pinned (fp:=[a]) (hAok hna) fun b hb=>by
   cases Mr.mp hb
   exact⟨_,ho,fun v z=>by cases z⟩
  generalize hP:([]:List (Ml×Obj))++uh [a] s'.heap=P at Ip
  have hPm:(a,({cls:=.type "list",data:=.seq its.toArray k}:Obj))∈P:=by rw[<- hP];exact MA _ (bA (by simp) ho)
  have hPa:∀p∈P,p.1∉fp:=fun p hp z=>by
   rw[<- hP] at hp
   obtain⟨q,_⟩:=wF hp
   rw[Mr.mp q] at z
   exact hAfp z
  by_cases hlt':i<ds.length
  ·have hd:ds[i]?=some ds[i]:=by simp[hlt']
   obtain⟨hgo,hy⟩:=y.1 i ds[i] H' (Kp.of sm) hd
   obtain⟨ρ1,e1⟩:=hsts ds[i] (List.getElem_mem hlt')
   obtain⟨τ,hτ,hρ1⟩:=hst ds[i] (List.replicate T.length none) ρ ρ1 (by simp) e1
   refine qW (Tn.item (uU X T scope C fp s H) rfl rfl rfl hc i P s' σ' H' (fun _ _=>False) Ip (hfpok hn' hPa) st' hgo) fun r s1 ⟨u,hr,h4⟩=>?_
   subst hr
   refine qW h4 fun _ s2 ⟨x,H2',I2,r2,y2,st2,fr2⟩=>?_
   obtain⟨s12,rx⟩:=hy x H2' y2
   have I3:=I2.pinned (fp:=fp) (hfpok fr2 hPa) (Tn.obj _ _ st2)
   refine qW (hg C s H fp _ s2 σ' H2' x u (fun σ3 H3=>l0 H2' H3/\qV X.K H3 ρ1 σ3) I3 r2 ⟨_,_,ds[i],ρ1,(er'.mono s12).t,rx,e1,fun σ3 H3 s3 er3=>⟨s3,er3.1⟩⟩) fun _ s3 ⟨σ3,H3,I4,s23,er3⟩=>?_
   refine Mm ?_
   rw[Mo rfl]
   have fin:∀{H5:Hp} {s5:Mi},L2.Inv (uU X T scope C fp s H) (P++uh fp s2.heap) σ3 H5 s5->(∀b∈fp,H5 b=none)/\H5 a=none/\s5.heap.get? a=some {cls:=.type "list",data:=.seq its.toArray k}/\(∀b∈fp,∀o,s2.heap.get? b=some o->s5.heap.get? b=some o):=fun {H5 s5} I6=>by
    refine⟨fun b hb=>?_,(I6.pin _ (MA _ (Nr _ hPm))).2.1,(I6.pin _ (MA _ (Nr _ hPm))).1,fun b hb o e=>(I6.pin (b,o) (MA _ (MA _ (bA hb e)))).1⟩
    obtain⟨o,e,_⟩:=Tn.obj _ _ st2 b hb
    exact(I6.pin (b,o) (MA _ (MA _ (bA hb e)))).2.1
   have unpin:∀{H5:Hp} {s5:Mi},L2.Inv (uU X T scope C fp s H) (P++uh fp s2.heap) σ3 H5 s5->L2.Inv (uU X T scope C fp s H) [] σ3 H5 s5:=fun I6=>I6.pins_of fun p hp=>MY hp (by simp)
   have erb:∀{H5:Hp},l0 H3 H5->qV X.K H5 (List.replicate T.length none++ρ) σ3:=fun s5=>by
    have z:=er3.mono s5
    rw[hρ1] at z
    have z2:=z.forget
    rw[hτ] at z2
    exact z2
   have hp3:PD i vs H3:=pm _ _ _ _ hpd (s12.trans s23)
   refine qW (he C s H fp _ s3 σ3 H3 (fun v H5=>l0 H3 H5/\PD (i+1) (vs++[v]) H5) I4 (ps i ds[i] ρ1 vs σ3 H3 hd e1 er3 hp3)) fun xv s5 ⟨v,H5,I6,rv,s45,ry⟩=>?_
   obtain⟨q1,q2,q3,q4⟩:=fin I6
   have hl:=hv.length
   have hvl:=pl _ _ _ hpd
   refine call_meets F.slot_list_append ⟨_,q3,rfl⟩ F.entry_list_append (F.args_list_append_2 _ _) (PySem.list_append a its.toArray k xv (by rw[Mz];omega)) ⟨q3,?_⟩
   have q:=PySem.IsL.update q3 (fun xs=>xs.push xv)
   have sm5:l0 H H5:=sm.trans (s12.trans (s23.trans s45))
   have I7:L2.Inv (uU X T scope C fp s H) [] σ3 H5 {s5 with heap:=s5.heap.update a (Obj.mapSeq fun xs=>xs.push xv),toks:=s5.toks}:=
    (unpin I6).turned (it:=a) (t':=s5.toks) (fun b ob hb hu=>(MT s5.heap _ (Ne.symm hb)).trans hu) q2 haC (.inr hle) (hcells a (Mw _)) fun p hp=>MY (show p∈([]:List (Ml×Obj)) from hp) (by simp)
   refine⟨ds.length - (i+1),by omega,i+1,σ3,H5,vs++[v],its++[xv],(if (its.toArray.push xv).size==its.toArray.size then k else k+1),rfl,hlt',I7,Tn.keep _ _ _ st2 fun b hb ob e=>?_,q1,q2,sm5,?_,hv.append (.cons rv .nil),ry,erb s45⟩
   ·have hne:b≠a:=fun z=>hAfp (z ▸ hb)
    exact(MT s5.heap _ (Ne.symm hne)).trans (q4 b hb ob e)
   ·have z:its.toArray.push xv=(its++[xv]).toArray:=by simp
    rw[<- z]
    exact q
  ·have ei:i=ds.length:=by omega
   subst ei
   refine qW (Tn.done (uU X T scope C fp s H) rfl rfl rfl hc ds.length P s' σ' H' (fun _ _=>False) Ip (hfpok hn' hPa) st' (y.2 _ H' (Kp.of sm) (Mw _))) fun r s1 ⟨hr,I1⟩=>?_
   subst hr
   have ho1:=(I1.pin _ (MA _ hPm)).1
   have IX:L2.Inv X pins σ H' s1:=I.call' (ch:=fp) I1.os I1.base I1.hok I1.bare fun b hb=>⟨(hf b hb).2.2.2.1,(hf b hb).2.1,(hf b hb).2.2.2.2.1,(hf b hb).2.2.2.2.2⟩
   have fA:uB X pins H' a:=I.fpOk hle hna
   have s2:=bf hna (.lst vs)
   refine hRR a C (upd H' a (.lst vs)) s1 vs (sm.trans s2) ay (pm _ _ _ _ hpd s2) (Gw IX fA ⟨MN (pl _ _ _ hpd) hz,its,k,hv,ho1⟩) (I.fpOk hCle ?_) (let ⟨m,q,_⟩:=I1.loc;⟨m,q⟩)
   rw[ar (Ne.symm haC)]
   exact I1.free
 exact codeAny_compStart_list loop (Tn.self _ _ _ _ _ (Tn.keep _ _ _ st fun b hb o e=>old b o e) loop)
end
section
variable{X:Cx}{pos:Pos}{C:Nat}{f:Str}
def Jk(X:Cx)(H:Hp)(mk:LD->Nat->Nat->OD)(ds:LD)(i:Nat)(vs:List V)(H':Hp):Prop:=∃ps obs,ps.length=i/\(fl ps).Nodup/\(∀b∈fl ps,H b=none)/\DP mk (ds.take i) ps=some obs/\k9 X.K H' obs vs/\qN (fl ps) H'/\l0 H H'
theorem B4{mk:LD->Nat->Nat->OD}:∀{ds obs:LD} {ps:List (Nat×Nat)},DP mk ds ps=some obs->obs.length=ps.length
 | [],obs,[],e=>by cases (show []=obs from ME e);rfl
 | x::ds,obs,p::ps,e=>by
  obtain⟨y,e1,e⟩:=i9 (show(mk [x] p.1 p.2).bind _=some obs from e)
  obtain⟨ys,e2,rfl⟩:=rm e
  rw[Nd,Nd,B4 e2]
 | [],_,_::_,e=>by cases e
 | _::_,_,[],e=>by cases e
def Ja(X:Cx)(i:Nat)(mk:LD->Nat->Nat->OD)(itf:R->Me LD):TS:=fun E σ H=>∃ ρ τ ds,qP X.K H ρ τ σ/\itf ρ=some ds/\ds.length<=1000/\i<ρ.length/\(∀d∈ds,∀a l,(mk [d] a l).isSome=true) /\
 ∀ps obs H' σ',ps.length=ds.length->(fl ps).Nodup->(∀b∈fl ps,H b=none)->DP mk ds ps=some obs->l0 H H'->qN (fl ps) H'->qP X.K H' (ρ.set i (some (.lst obs))) τ σ'->E.nx σ' H'
theorem oJ{iter:MJ}{x t cn:Str}{scope:Scope}{py spos p p1 pt pt2:Pos}{itf:R->Me LD}{g:MU}{fi:Ml}{fd:Nl}{ps:List Str}{k NI:Nat}(i:Nat)(hc:X.calm=true)(hN:X.N.Nodup)(hi:SI X (.Name t pt) iter itf)(hg:∀C s₃ H₃ fp,SG (uU X [t] scope C fp s₃ H₃) (.Name t pt) (setAt 0))
  (M:Mk X.K C fi) (Fn:l7 X.prog X.w X.K X.mg X.base q8 k fi fd ps (HV X.K ps.length NI C f g)) (bd:Binds X.K fd ps []) (hr:ri (k+1) X.A) (hm:X.mg cn=some (.ref C)) (ha:∀C s₃ H₃ fp,SA (uU X [t] scope C fp s₃ H₃) [.Name t pt2] (i4 (i5 0) i7))
  (hgl:∀C s₃ H₃ fp,Gl (uU X [t] scope C fp s₃ H₃) cn) (hnd:([t]++X.N).Nodup) (hn:2=ps.length:=by rfl) (hdb:(cn==("__debug__" : Str))=false:=by decide) (hix:X.N[i]?=some x:=by rfl) (hx:Loc X.env.scope x:=by first | exact Or.inl rfl | exact Or.inr rfl) (hfn:X.fn x=true\/X.env.scope.names.lookup x=some .local:=by first | exact .inl rfl | exact .inr rfl)
  (ck:wg scope X.env.scope [t] X.N=true:=by rfl) (hsw:swapsWith (.ListComp (.Call (.Name cn p) [.Name t pt2] [] p1) [⟨.Name t pt,iter,[],0⟩] scope pos) (some (.Name x py)) spos.line X.env=pure true:=by rfl) (hs:∀x,foldedSetIterable iter X.env x=pure x:=by intro _;rfl) :
  PS X (.Assign [.Name x py] (.ListComp (.Call (.Name cn p) [.Name t pt2] [] p1) [⟨.Name t pt,iter,[],0⟩] scope pos) spos) (Ja X i (uZ NI C f g) itf):=by
 intro pins s σ H E I ⟨ρ,τ,ds,er,e1,hz,hlt,hsm,q⟩
 have ck':=wK ck
 rw[exec_Assign_Name_used _ _ _ _ hsw]
 refine Mf (wpAny_standAt (Mf ?_))
 show wpAny _ X.A (do let _ <- comprehension (.ListComp _ [⟨.Name t pt,iter,[],0⟩] scope pos) scope X.env _ (newList []) false (eval iter X.env) (some (assign (.Name x py) X.env))) _ _ s
 refine Mf (Nu (wpAny_comprehension_free (use:=some (assign (.Name x py) X.env)) (Q:=fun _ s'=>SP X pins E .next s') rfl hs (ga I ck') ck'.kind ck'.names ?_) (fun _ s' hq=>Mm (Mm hq)) fun _ _ z=>z)
 refine qW (hi pins s σ H (fun J H'=>l0 H H'/\sV X.K J ds H') I ⟨ρ,ds,er.1,e1,fun J H' s1 y=>⟨s1,y⟩⟩) fun v s1 h1=>qW h1 fun itv s2 h2=>?_
 obtain⟨it,fp,tn,J,H0,ei,I2,Tn,st,hf,s12,y⟩:=h2
 subst ei
 have hne:∀{b:Ml},H0 b=none->H b=none:=fun {b} hb=>by
  cases e:H b with
  | none=>rfl
  | some u=>rw[s12 b u e] at hb;cases hb
 refine my (PD:=Jk X H0 (uZ NI C f g) ds) (tE:=Do C (HV X.K ps.length NI C f g) [] E0 (HU X.K (i4 (i5 0) i7))) (RR:=fun acc C=>compPost (model X.prog X.w) X.A X.xe (some (assign (.Name x py) X.env)) (fun _ s'=>SP X pins E .next s') acc C) I2 hc Tn st hf ck' hnd (r_ Nat.zero_lt_one) (er.1.mono s12) y (MN hz (by decide)) (fun d _=>⟨_,rfl⟩) hg
  (fun C' s₃ H₃ fp=>pD (X:=uU X [t] scope C' fp s₃ H₃) M Fn hr (hgl C' s₃ H₃ fp) hm bd .nil wZ (ha C' s₃ H₃ fp).1 hdb (aE (e:=.Name t pt2) [] _ rfl) (cu (pos:=p1) (es:=[]) rfl)) ⟨[],[],rfl,.nil,(fun b hb=>nomatch hb),(rfl:DP _ [] []=some []),rfl,(fun b hb=>nomatch hb),l0.refl _⟩ ?_ ?_ ?_ ?_
 ·rintro i vs H1 H2 ⟨ps,obs,h1,h2,h3,h4,h5,h6,h7⟩ s'
  exact⟨ps,obs,h1,h2,h3,h4,h5.mono s',h6.same s',h7.trans s'⟩
 ·rintro i vs H1 ⟨ps,obs,h1,h2,h3,h4,h5,h6,h7⟩
  rw[<- h5.length,B4 h4];exact Nat.le_of_eq h1
 ·rintro j d ρ1 vs σ' H' hd est er1 ⟨qs,obs,h1,h2,h3,h4,h5,h6,h7⟩
  cases est
  have hmem:d∈ds:=NA hd
  refine DW (X:=X) (ρ:=some d::ρ) (ds:=[d]) (by exact hn) er1 rfl (fun a _=>?_) fun a l ob H5 ha0 hl0 hal hmk sm ro ms=>⟨sm,qs++[(a,l)],obs++[ob],by rw[MP,h1];rfl,?_,?_,?_,(h5.mono sm).append (k9.one ro),?_,h7.trans sm⟩
  ·obtain⟨o,ho⟩:=Option.isSome_iff_exists.mp (hsm d hmem a 0)
   exact⟨0,o,ho⟩
  ·have nin:∀{b:Nat},H' b=none->b∉fl qs:=fun {b} hb z=>by
    have:=h6 b z
    rw[hb] at this;exact this
   rw[zd,List.nodup_append]
   refine⟨h2,?_,fun b hb c hcc=>?_⟩
   ·rw[List.nodup_cons]
    exact⟨fun z=>hal (Mr.mp z),List.nodup_cons.mpr ⟨(fun z=>nomatch z),.nil⟩⟩
   ·rintro rfl
    rcases Mu.mp hcc with rfl | hcc
    ·exact nin ha0 hb
    ·rw[Mr.mp hcc] at hb
     exact nin hl0 hb
  ·intro b hb
   have old:∀{b:Nat},H' b=none->H0 b=none:=fun {b} hb=>by
    cases e:H0 b with
    | none=>rfl
    | some u=>rw[h7 b u e] at hb;cases hb
   rw[zd] at hb
   rcases Nz.mp hb with hb | hb
   ·exact h3 b hb
   ·rcases Mu.mp hb with rfl | hb
    ·exact old ha0
    ·rw[Mr.mp hb];exact old hl0
  ·have e:ds.take (j+1)=ds.take j++[d]:=by rw[List.take_add_one,hd];rfl
   rw[e]
   exact Ay hmk h4
  ·rw[zd]
   intro b hb
   rcases Nz.mp hb with hb | hb
   ·exact h6.same sm b hb
   ·exact ms b hb
 ·rintro a C' H3 s' vs sm hal ⟨qs,obs,h1,h2,h3,h4,h5,h6,h7⟩ I3 fC hns
  obtain⟨m,hm⟩:=hns
  obtain⟨f0,f1,f2,f3,f4,f5⟩:=fC
  show wpAny _ X.A (assign (.Name x py) X.env (.ref a)) _ _ _
  refine wpAny_assign_Name (wL (v:=.ref a) I3 hN hix hx rfl (fun s'' I4 ⟨b,hsb,hb⟩=>?_) hfn)
  have hCb:C'≠b:=by
   rcases hb with z | z
   ·exact z ▸ f1
   ·exact Ne.symm (f4 x b z)
  rw[List.take_length] at h4
  refine⟨m,hm.sameBut hsb hCb,fun h' hsb2=>⟨σ.set i (some (.ref a)),H3,I4.turned (it:=C') (t':=s''.toks) (fun b o hb eb=>(hsb2.2 b hb).trans eb) f0 f1 f3 f4 f5,q qs obs H3 _ h1 h2 (fun b hb=>hne (h3 b hb)) h4 (s12.trans sm) h6 ?_⟩⟩
  exact(er.mono (s12.trans sm)).set hlt ⟨a,vs,rfl,hal,h5⟩
theorem pL{st:ML}{t:TS}(k:Nat)(y:Str)(h:PS (GX X k y) st t):PS X st (fun E σ H=>t ⟨fun σ' H'=>E.nx (σ'.set k none) H',E.rt,fun σ' H'=>E.bk (σ'.set k none) H',fun σ' H'=>E.ct (σ'.set k none) H'⟩ (σ.set k none) H):=fun pins s σ H E I hw=>by
 refine qW (h pins s (σ.set k none) H _ (EV I) hw) fun fl s' w=>?_
 cases fl with
 | next=>obtain⟨σ',H',I',q'⟩:=w;exact⟨_,H',vz I',q'⟩
 | brk=>obtain⟨σ',H',I',q'⟩:=w;exact⟨_,H',vz I',q'⟩
 | cont=>obtain⟨σ',H',I',q'⟩:=w;exact⟨_,H',vz I',q'⟩
 | ret u=>obtain⟨v,σ',H',I',r,q'⟩:=w;exact⟨v,_,H',vz I',r,q'⟩
theorem oa{st:ML}{sts:List ML}{mk:LD->Nat->Nat->OD}{itf:R->Me LD}{w:MU}(k i:Nat)(y:Str)(h:PS (GX X k y) st (Ja X i mk itf))(h2:Cd X sts w):SS X (st::sts) (yP k i mk itf w):=by
 intro pins s σ H E I ⟨ρ,τ,o,er,eo,qq⟩
 obtain⟨ds,r,e1,⟨hi,hk,hik,hz,hsm⟩,rfl,hw⟩:=DD eo
 refine wpAny_execs_cons (qW (pL k y h pins s σ H {E with nx:=fun σ' H'=>∃ps obs,ps.length=ds.length/\(fl ps).Nodup/\(∀b∈fl ps,H b=none)/\DP mk ds ps=some obs/\l0 H H'/\qN (fl ps) H'/\qP X.K H' ((ρ.set k none).set i (some (.lst obs))) τ σ' } I
  ⟨ρ.set k none,τ,ds,kE er hk,e1,hz,by rw[MR];exact hi,hsm,fun ps obs H' σ' h1 h2 h3 h4 h5 h6 h7=>⟨ps,obs,h1,h2,h3,h4,h5,h6,?_⟩⟩) fun fl' s1 z=>?_)
 ·have z:=kE (k:=k) h7 (by rw[MR,MR];exact hk)
  have e:(((ρ.set k none).set i (some (.lst obs))).set k none)=(ρ.set k none).set i (some (.lst obs)):=by
   rw[List.set_comm _ _ hik,List.set_set]
  rw[e] at z
  exact z
 ·cases fl' with
  | next =>
   obtain⟨σ',H',I',ps,obs,h1,h2',h3,h4,sm,ms,er'⟩:=z
   obtain⟨obs',ρ',h5,h6⟩:=hw ps h1 h2'
   rw[h4] at h5
   cases h5
   refine h2 (fl ps) pins s1 _ H' E I' ⟨_,τ,_,er',ms,h6,fun H2 kq m2 v rv _=>?_⟩
   exact qq H2 (fun b u hb=>kq b u (fun z=>by rw[h3 b z] at hb;cases hb) (sm b u hb)) v rv
  | brk=>exact z
  | cont=>exact z
  | ret v=>exact z
end
def KJ(K:Mj)(S:List Nat)(f:R->Me LD):L2.TI:=fun σ H W=>∃ ρ ds,qV K H ρ σ/\qN S H/\f ρ=some ds/\∀J H',l0 H H'->zc K S J ds H'->W J H'
def IA(X:Cx)(tg iter:MJ)(f:R->Me LD):Prop:=∀S,PI X tg iter (KJ X.K S f)
section
variable{X:Cx}{pos:Pos}{u w:MU}
theorem pB{tg iter:MJ}{B:List ML}{it:R->Me LD}{stf:D->R->Me R}(hp:PassesOwn (model X.prog X.w) X.A X.env X.xe)(hc:X.calm=true)(hi:IA X tg iter it)(hg:SG X tg stf)(hb:Cd X B u)
  (hs:∀x,foldedSetIterable iter X.env x=pure x:=by intro _;rfl):MS X (.For tg iter B [] pos) (Gy it stf u):=fun S=>(jn hp hc (hi S) hg (hb S) hs).imp fun E σ H ⟨ρ,τ,o,er,m,e,q⟩=>by
 obtain⟨ds,e1,e⟩:=i9 e
 refine⟨ρ,ds,er.1,m,e1,fun J H1 s1 y=>?_⟩
 refine⟨fun i n σ' H'=>n=ds.length - i/\i<=ds.length/\rH S H1 H'/\qN S H'/\∃ ρ',qP X.K H' ρ' τ σ'/\xX stf u S (ds.drop i) ρ'=some o,⟨ds.length,by simp,M_ _,rH.refl,m.same s1,ρ,er.mono s1,by simpa using e⟩,?_⟩
 rintro i n σ' H' ⟨rfl,hi,s2,m2,ρ',er',e'⟩
 by_cases hlt:i<ds.length
 ·refine .inr ?_
  have hd:ds[i]?=some ds[i]:=by simp[hlt]
  obtain⟨hgo,hy⟩:=y.1 i ds[i] H' s2 hd
  rw[Nj hlt] at e'
  obtain⟨ρ1,e2,e'⟩:=i9 e'
  obtain⟨o1,e3,e'⟩:=i9 e'
  refine⟨hgo,fun σ2 H2=>i+1<=ds.length/\rH S H1 H2/\qN S H2/\∃ ρ',qP X.K H2 ρ' τ σ2/\xX stf u S (ds.drop (i+1)) ρ'=some o,fun σ2 H2 n2=>⟨ds.length - (i+1),by omega,rfl,n2.1,n2.2⟩,fun x H3 yx=>?_⟩
  obtain⟨s3,rx⟩:=hy x H3 yx
  refine⟨ρ',τ,ds[i],ρ1,er'.mono s3,rx,e2,fun σ4 H4 s4 er4=>⟨ρ1,τ,o1,er4,(m2.same s3).same s4,e3,fun H5 s5 m5=>?_⟩⟩
  have s15:rH S H1 H5:=s2.trans ((rH.of s3).trans ((rH.of s4).trans s5))
  cases o1 with
  | nx ρ2=>exact fun σ6 er6=>⟨hlt,s15,m5,ρ2,er6,e'⟩
  | rt d ρ2=>cases e';exact q H5 ((rH.of s1).trans s15) m5
 ·have e4:i=ds.length:=by omega
  subst e4
  rw[List.drop_length] at e'
  cases e'
  exact .inl ⟨y.2 _ H' s2 (Mw _),q H' ((rH.of s1).trans s2) m2 σ' er'⟩
theorem BY{K:Mj}{H:Hp}:∀{obs:LD} {vs:List V},obs.all tU=true->k9 K H obs vs->vs=obs.map fun o=>.ref (sR o)
 | [],_,_,r=>r
 | o::obs,_,h,r=>by
  rw[Ng,Mp] at h
  obtain⟨v,vr,rfl,r1,r2⟩:=r
  rw[fV h.1 r1,BY h.2 r2];rfl
theorem Dm{x:Str}{es:List MJ}{x1:_}{tp:Pos}{b:MJ}{g:R->OD}{p pa pos:Pos}(i:Nat)(hm:X.mg "zip" = none)(hb:SE X b g)(hN:X.N[i]?=some x:=by rfl)(hv:BS X.env.scope x:=by first | exact Or.inl rfl | exact Or.inr (Or.inl rfl) | exact Or.inr (Or.inr rfl))
  (hd:(x==("__debug__" : Str))=false:=by decide) (hcd:(x==("__classdict__" : Str))=false:=by decide) (hg:Gl X "zip":=by rfl) (hs2:noStar b=true:=by rfl) :
  IA X (.Tuple es x1 tp) (.Call (.Name "zip" p) [.Name x pa,b] [] pos) (xM i g):=by
 have z2:=aE [] X.env hs2
 have z1:=aE (e:=.Name x pa) [b] X.env rfl
 intro S pins s σ H W I ⟨ρ,ds,er,mS,e,q⟩
 unfold xM at e
 cases e1:i5 i ρ with
 | none=>rw[e1] at e;cases e
 | some ax =>
 rw[e1] at e
 match ax,e,e1 with
 | .lst obs,e,e1 =>
 obtain⟨yd,e2,e⟩:=i9 e
 match yd,e,e2 with
 | .lst ys,e,e2 =>
 dsimp only at e
 split at e
 case isFalse=>cases e
 case isTrue hc =>
 cases e
 obtain⟨ho,hny,hl⟩:=hc
 have PAA:=(ac (ad i hN hv hd hcd (pos:=pa)) (ac hb af hs2) rfl).1
 refine Call_ (cT I hg hm (u:=.type "zip") (by kernel_rfl) (PyProof.Rows.callWith_type1 (qW (PAA pos pins s σ H (fun vs H1=>l0 H H1/\k9 X.K H1 [.lst obs,.lst ys] vs) I
  ⟨ρ,[.lst obs,.lst ys],er,by show(i5 i ρ).bind _=_;rw[e1];show((g ρ).bind _).map _=_;rw[e2];rfl,fun vs H1 s1 r1=>⟨s1,r1⟩⟩) fun us s1 ⟨vs,H1,I1,r1,sm,q1⟩=>?_) (by rw[z1,z2]) (by rw[z2];rfl)))
 obtain⟨v,r,rfl,r2,r3⟩:=q1
 obtain⟨t,r',rfl,r4,r5⟩:=r3
 cases (show r'=_ from r5)
 cases r1 with
 | cons ra rr =>
  cases rr with
  | cons rb rr =>
   cases rr
   obtain⟨a1,vs1,rfl,hq1,t1⟩:=r2
   obtain⟨a2,vs2,rfl,hq2,t2⟩:=r4
   cases ra
   cases rb
   obtain⟨its1,rv1,p1,hz1⟩:=I1.list (ua.of hq1)
   obtain⟨its2,rv2,p2,hz2⟩:=I1.list (ua.of hq2)
   have mS1:=mS.same sm
   refine nB (S:=.lst a1) (T:=.lst a2) ⟨_,p1.isList⟩ ⟨_,p2.isList⟩ fun h' z TI TO i1 i2 D hz hI hO sS sT new kept=>?_
   refine wpAny_pyIter_zip (s:={s1 with heap:=h' }) hz ?_
   refine⟨z,[z,TI,TO,i1,i2],_,_,H1,rfl,I1.kept (t':=s1.toks) kept,Ep (.lst a1) (.lst a2) D,⟨hz,hI,⟨_,_,hO⟩,sS,sT⟩,fun c hc=>I1.fpOk (new c hc) (I1.hok.fresh (new c hc)),q _ H1 sm ⟨fun j d H2 k e=>?_,fun j H2 k hlj=>?_⟩⟩
   ·obtain⟨xd,y,ex,ey,rfl⟩:=DL e
    rw[Nb] at ex
    obtain⟨ob,eo,rfl⟩:=rm ex
    have hvs:=BY ho t1
    have g1:(Src.lst a1).go X.K j H2 (.ref (sR ob)):=⟨vs1,ua.of (k _ _ (mS1.nin hq1 fun z=>z) hq1),by rw[hvs,Nb,eo];rfl⟩
    obtain⟨v2,h1,h2⟩:=(k9.kq mS1 k hny t2).get ey
    have g2:(Src.lst a2).go X.K j H2 v2:=⟨vs2,ua.of (k _ _ (mS1.nin hq2 fun z=>z) hq2),h1⟩
    refine⟨⟨⟨_,g1⟩,⟨_,g2⟩⟩,?_⟩
    rintro pp H3 ⟨b,v',u',rfl,hn,rfl,w1,w2⟩
    cases w1 _ g1
    cases w2 _ g2
    have s3:=bf hn (.tup [.ref (sR ob),v2])
    exact⟨s3,b,[.ref (sR ob),v2],rfl,uT.of ay,_,[v2],rfl,rfl,v2,[],rfl,h2.mono s3,rfl⟩
   ·rw[Ak,Ms,hl,Nat.min_self] at hlj
    exact .inl ⟨vs1,ua.of (k _ _ (mS1.nin hq1 fun z=>z) hq1),by rw[<- t1.length,hl];exact hlj⟩
theorem k9.set{K:Mj}{H:Hp}{d:D}{v:V}:∀{n:Nat} {ds:LD} {vs:List V},k9 K H ds vs->vs[n]?=some v->Rep K H d v->k9 K H (ds.set n d) vs
 | _,[],_,r,_,_=>by rw[List.set_nil];exact r
 | 0,e::ds,_,r,h,rd=>by
  obtain⟨x,r',rfl,_,t⟩:=r
  cases (show some x=some v from h)
  exact⟨_,r',rfl,rd,t⟩
 | n+1,e::ds,_,r,h,rd=>by
  obtain⟨x,r',rfl,q,t⟩:=r
  exact⟨x,r',rfl,q,k9.set (n:=n) t (by simpa using h) rd⟩
theorem GA{obs:LD}{a n:Nat}(h:(obs.findIdx? fun o=>tU o&&sR o==a)=some n):∃ob,obs[n]?=some ob/\tU ob=true/\sR ob=a:=by
 obtain⟨h1,h2,_⟩:=List.findIdx?_eq_some_iff_getElem.mp h
 rw[Mp] at h2
 exact⟨_,List.getElem?_eq_getElem h1,h2.1,by simpa using h2.2⟩
theorem oA{B:List ML}(i w:Nat)(h:Cd X B u):Cd X B (BZ i w u):=fun S=>(h S).imp fun E σ H ⟨ρ,τ,o,er,m,e,q⟩=>by
 unfold BZ at e
 cases e1:i5 i ρ with
 | none=>rw[e1] at e;cases e
 | some x1 =>
 cases e2:i5 w ρ with
 | none=>rw[e1,e2] at e;cases x1<;>cases e
 | some x2 =>
 rw[e1,e2] at e
 match x1,x2,e,e1,e2 with
 | .lst obs,.rf a,e,e1,e2 =>
 obtain⟨n,e3,e⟩:=i9 e
 obtain⟨o1,e4,e⟩:=i9 e
 obtain⟨ob,h1,h2,h3⟩:=GA e3
 rw[h1] at e4
 obtain⟨v1,hσ1,l,vs,rfl,hq,t⟩:=er.1.at e1
 obtain⟨v2,hσ2,rv2⟩:=er.1.at e2
 cases (show v2=_ from rv2)
 obtain⟨vo,hvo,ro⟩:=t.get h1
 have hvo':=fV h2 ro
 rw[h3] at hvo'
 subst hvo'
 have put:∀{H':Hp} {ρ':R} {σ':L2.St} {j:Nat} {d:D} {v:V},qP X.K H' ρ' τ σ'->σ'[j]?=some (some v)->Rep X.K H' d v->qP X.K H' (ρ'.set j (some d)) τ σ':=fun {H' ρ' σ' j d v} er' hv rd=>by
  refine⟨⟨by rw[MR];exact er'.1.1,fun k c hk=>?_⟩,by rw[MR];exact er'.2⟩
  by_cases hj:k=j
  ·subst hj
   have hl:k<ρ'.length:=by have:=(MG.mp hk).1;simpa using this
   rw[Na hl] at hk
   cases hk
   exact⟨v,hv,rd⟩
  ·rw[MW (Ne.symm hj)] at hk
   exact er'.1.2 k c hk
 refine⟨_,τ,o1,put (put er hσ1 (d:=.lst (obs.set n (.rf a))) ⟨l,vs,rfl,hq,t.set hvo rfl⟩) hσ2 ro,m,e4,fun H' k' m'=>?_⟩
 have q':=q H' k' m'
 cases o1 with
 | rt d ρ2=>cases e;exact q'
 | nx ρ2 =>
  dsimp only [Gc] at e
  cases f1:i5 i ρ2 with
  | none=>rw[f1] at e;cases e
  | some y1 =>
  cases f2:i5 w ρ2 with
  | none=>rw[f1,f2] at e;cases y1<;>cases e
  | some ob2 =>
  rw[f1,f2] at e
  match y1,e,f1 with
  | .lst obs2,e,f1 =>
  dsimp only at e
  split at e
  case isFalse=>cases e
  case isTrue hc =>
  cases e
  obtain⟨hiw,ho2,ha2,hr2⟩:=hc
  intro σ' er'
  obtain⟨u1,hτ1,l2,vs2,rfl,hq2,t2⟩:=er'.1.at f1
  obtain⟨u2,hτ2,ru2⟩:=er'.1.at f2
  have hu2:=fV ho2 ru2
  rw[ha2] at hu2
  subst hu2
  have hn2:vs2[n]?=some (.ref a):=by
   unfold G0 at hr2
   split at hr2
   ·rename_i b hb
    obtain⟨v3,h5,h6⟩:=t2.get hb
    cases (show v3=_ from h6)
    rw[h5,show b=a by simpa using hr2]
   ·cases hr2
  refine q' σ' ?_
  have z:=put er' hτ1 (d:=.lst (obs2.set n ob2)) ⟨l2,vs2,rfl,hq2,t2.set hn2 ru2⟩
  refine⟨⟨by rw[MR];exact z.1.1,fun k c hk=>z.1.2 k c (wk hk).2⟩,by rw[MR];exact z.2⟩
theorem nk{c:MC}{e b e2:MJ}{B1 B2:List ML}{op:CmpOp}{F:D->D->Me Bool}{h:R->OD}{p:R->Me Bool}{pc pb:Pos}(hp:ST X e2 p)(ho:BK X op F)(ht:∀S,PE X e (Ll X c S))(hb:SE X b h)(h1:Cd X B1 u)(h2:Cd X B2 w)(hm:behindInMarks op b=false:=by first | exact Bc _ | with_unfolding_all rfl) :
  MS X (.If (.BoolOp .And [e2,.Compare e [op] [b] pc] pb) B1 B2 pos) (y_ p c F h u w):=fun S=>(j7 (PW.pt (DU hp (BJ (lQ ho (ht S) hb hm)))) (h1 S) (h2 S)).imp fun E σ H ⟨ρ,τ,o,er,m,eq,q⟩=>by
 obtain⟨b1,e0,eq⟩:=i9 eq
 refine⟨ρ,b1,er.1,e0,fun H0 s0=>?_⟩
 cases b1 with
 | false =>
  rw[Mx Mt] at eq ⊢
  exact⟨ρ,τ,o,er.mono s0,m.same s0,eq,fun H3 k3 m3=>q H3 ((rH.of s0).trans k3) m3⟩
 | true =>
  rw[Mo rfl] at eq ⊢
  obtain⟨⟨d,ρ'⟩,e1,eq⟩:=i9 eq
  obtain⟨y,e2,eq⟩:=i9 eq
  obtain⟨bb,e3,eq⟩:=i9 eq
  refine⟨ρ,τ,d,ρ',er.mono s0,m.same s0,e1,fun v H1 k1 m1 rv er1=>⟨ρ',y,er1.1,e2,fun v2 H2 s2 r2=>⟨d,y,bb,rv.mono s2,r2,e3,bb,rfl,?_⟩⟩⟩
  cases bb with
  | true =>
   rw[Mo rfl] at eq ⊢
   exact⟨ρ',τ,o,er1.mono s2,m1.same s2,eq,fun H3 k3 m3=>q H3 ((rH.of s0).trans (k1.trans ((rH.of s2).trans k3))) m3⟩
  | false =>
   rw[Mx Mt] at eq ⊢
   exact⟨ρ',τ,o,er1.mono s2,m1.same s2,eq,fun H3 k3 m3=>q H3 ((rH.of s0).trans (k1.trans ((rH.of s2).trans k3))) m3⟩
end
end HW
namespace HW
open PySem
inductive vN | none | hour | minute | zero | ahour | aminute | alarm | run | lap | cminute | csecond | full | count
 deriving DecidableEq,Inhabited
inductive ub | a | b | c
 deriving DecidableEq,Inhabited
inductive Face | time | alarm | laps | count
 deriving DecidableEq,Inhabited
noncomputable def vN.x:vN->Str
 | .none=>oS "none" | .hour=>oS "hour" | .minute=>oS "minute" | .zero=>oS "zero" | .ahour=>oS "ahour" | .aminute=>oS "aminute" | .alarm=>oS "alarm"
 | .run=>oS "run" | .lap=>oS "lap" | .cminute=>oS "cminute" | .csecond=>oS "csecond" | .full=>oS "full" | .count=>oS "count"
def ub.x:ub->Str
 | .a=>oS "a" | .b=>oS "b" | .c=>oS "c"
def ub.X:ub->Str
 | .a=>oS "A" | .b=>oS "B" | .c=>oS "C"
def ub.ix:ub->Nat
 | .a=>0 | .b=>1 | .c=>2
def Face.x:Face->Str
 | .time=>oS "time" | .alarm=>oS "alarm" | .laps=>oS "laps" | .count=>oS "count"
structure Md where
 face:Face
 stays:Bool
 rows:List (vN×Nat)
 deriving Inhabited
structure Bk where
 hold:Int
 back:Int
 modes:List Md
structure WS where
 mode:Nat
 clock:Int
 ah:Int
 am:Int
 aon:Bool
 lm:Int
 lr:Bool
 lk:List Int
 cm:Int
 cs:Int
 cl:Int
 cr:Bool
 ring:Int
 held:Me (ub×Me Int)
 idle:Int
def xD(r:vN×Nat):D:=.tup [.str r.1.x,.int (r.2:Int)]
def Md.d(m:Md):D:=.tup [.str m.face.x,.bl m.stays,.tup (m.rows.map xD)]
def Bk.d(b:Bk):D:=.tup [.int b.hold,.int b.back,.tup (b.modes.map Md.d)]
noncomputable def qQ:Me Int->D
 | .none=>.non
 | .some k=>.int k
def uY:Me (ub×Me Int)->D
 | .none=>.non
 | .some (x,k)=>.tup [.str x.x,qQ k]
def WS.alarmD(s:WS):D:=.tup [.int s.ah,.int s.am,.bl s.aon]
def WS.lapsD(s:WS):D:=.tup [.int s.lm,.bl s.lr,.tup (s.lk.map .int)]
def WS.countD(s:WS):D:=.tup [.int s.cm,.int s.cs,.int s.cl,.bl s.cr]
def WS.d(s:WS):D:=.tup [.int (s.mode:Int),.int s.clock,s.alarmD,s.lapsD,s.countD,.int s.ring,uY s.held,.int s.idle]
structure Md.Ok (n:Nat) (m:Md):Prop where
 six:m.rows.length=6
 nx:∀r∈m.rows,r.2<n
structure Bk.Ok (b:Bk):Prop where
 hold1:1<=b.hold
 hold9:b.hold<=9
 back0:0<=b.back
 back60:b.back<=60
 some1:1<=b.modes.length
 some8:b.modes.length<=8
 all:∀m∈b.modes,m.Ok b.modes.length
structure WS.Wk (b:Bk) (s:WS):Prop where
 bk:0<=b.back
 mode:s.mode<b.modes.length
 clock0:0<=s.clock
 clock1:s.clock<86400
 ah0:0<=s.ah
 ah1:s.ah<24
 am0:0<=s.am
 am1:s.am<60
 lm0:0<=s.lm
 lk:s.lk.length<=4
 cm0:0<=s.cm
 cm1:s.cm<60
 cs0:0<=s.cs
 cs1:s.cs<60
 cl0:0<=s.cl
 cl1:s.cl<3600
 cr:s.cr=true->0<s.cl
 ring0:0<=s.ring
 ring1:s.ring<=10
 idle0:0<=s.idle
 idle1:0<b.back->s.idle<b.back
 idle2:b.back=0->s.idle=0
structure WS.Ok (b:Bk) (s:WS):Prop extends WS.Wk b s where
 held:∀x k,s.held=some (x,some k)->0<=k/\k<b.hold
noncomputable def xa(s:WS)(m c:Int):WS:=if s.cr then s else {s with cm:=m,cs:=c,cl:=60*m+c,cr:=false}
def deed:vN->WS->WS
 | .none,s=>s
 | .hour,s=>{s with clock:=(s.clock+3600)%86400}
 | .minute,s=>{s with clock:=s.clock - s.clock%3600+(s.clock%3600+60)%3600}
 | .zero,s=>{s with clock:=s.clock - s.clock%60}
 | .ahour,s=>{s with ah:=(s.ah+1)%24}
 | .aminute,s=>{s with am:=(s.am+1)%60}
 | .alarm,s=>{s with aon:=!s.aon}
 | .run,s=>{s with lr:=!s.lr}
 | .lap,s=>if s.lr then (if 4<=s.lk.length then s else {s with lk:=s.lk++[s.lm]}) else {s with lm:=0,lk:=[]}
 | .cminute,s=>xa s ((s.cm+1)%60) s.cs
 | .csecond,s=>xa s s.cm ((s.cs+1)%60)
 | .full,s=>xa s s.cm s.cs
 | .count,s=>{s with cr:=!s.cr&&decide (0<s.cl)}
def Bk.row(b:Bk)(m i:Nat):vN×Nat:=(b.modes.getD m default).rows.getD i (.none,0)
def press(b:Bk)(s:WS)(i:Nat):WS:={deed (b.row s.mode i).1 s with mode:=(b.row s.mode i).2}
noncomputable def mx(i j:Int):Int:=if j > i then j else i
def WS.sec(s:WS):Int:=3600*s.ah+60*s.am
def m9(s:WS):Me Int:=if s.aon then some ((s.sec - s.clock - 1)%86400+1) else none
def qM(s:WS):Me Int:=if s.cr then some s.cl else none
def ux(s:WS)(n:Int):Me Int:=
 match m9 s,qM s with
 | some a,some c=>if a<=n then (if c<=n then some (mx (n - (n - a)%86400) c) else some (n - (n - a)%86400)) else (if c<=n then some c else none)
 | some a,none=>if a<=n then some (n - (n - a)%86400) else none
 | none,some c=>if c<=n then some c else none
 | none,none=>none
def xT(s:WS)(n:Int):Int:=
 match ux s n with
 | none=>mx 0 (s.ring - n)
 | some l=>mx 0 (10 - (n - l))
def zH(h:Me (ub×Me Int))(n:Int):Me (ub×Me Int):=
 match h with
 | some (x,some k)=>some (x,some (k+n))
 | h=>h
def uG(b:Bk)(s:WS):Int:=mx 1 (b.back - s.idle)
def u_(b:Bk)(s:WS)(n:Int):Int:=
 if s.held.isSome\/b.back=0 then s.idle else if n<uG b s then s.idle+n else (n - uG b s)%b.back
def x_(s:WS)(n:Int):Int:=if s.lr then s.lm+n else s.lm
def uC(s:WS)(n:Int):Int:=if s.cr then mx 0 (s.cl - n) else s.cl
def runsOn(s:WS)(n:Int):Bool:=s.cr&&decide (0<mx 0 (s.cl - n))
def counted(b:Bk)(s:WS)(n:Int):WS:=
 {s with clock:=(s.clock+n)%86400,lm:=x_ s n,cl:=uC s n,cr:=runsOn s n,ring:=xT s n,held:=zH s.held n,idle:=u_ b s n}
def u6(b:Bk)(s:WS):Bool:=decide (0<b.back)&&(!decide (s.mode=0)&&!(b.modes.getD s.mode default).stays)
def qK(b:Bk)(s:WS):Me Int:=
 match s.held with
 | none=>if u6 b s then some (uG b s) else none
 | some (_,none)=>none
 | some (_,some k)=>some (mx 1 (b.hold - k))
def turned(b:Bk)(s:WS):WS:=
 match s.held with
 | none=>{s with mode:=0}
 | some (x,_)=>press b {s with held:=some (x,none)} (x.ix+3)
def behind(b:Bk)(s:WS)(t:Int):WS:=turned b (counted b s t)
def ticked(b:Bk)(s:WS)(n:Int):WS:=
 match qK b s with
 | none=>counted b s n
 | some t=>if n<t then counted b s n else counted b (behind b s t) (n - t)
def pushed(s:WS)(x:ub):WS:=if s.held.isSome then s else {s with ring:=0,held:=some (x,if 0<s.ring then none else some 0),idle:=0}
def letGo(b:Bk)(s:WS)(x:ub):WS:=
 match s.held with
 | some (y,k)=>if y=x then { (if k.isSome then press b s x.ix else s) with held:=none,idle:=0} else s
 | none=>s
inductive Ev | down (x:ub) | up (x:ub) | ticks (n:Int)
 deriving DecidableEq
def Ev.d:Ev->D
 | .down x=>.tup [.str (oS "down"),.str x.x]
 | .up x=>.tup [.str (oS "up"),.str x.x]
 | .ticks n=>.tup [.str (oS "ticks"),.int n]
def gone(b:Bk)(s:WS):Ev->WS
 | .down x=>pushed s x
 | .up x=>letGo b s x
 | .ticks n=>ticked b s n
theorem Ln(i j:Int):i<=mx i j:=by unfold mx;split<;>omega
def zV(aon:Bool)(a:Int)(cr:Bool)(c r n:Int):Int:=
 if aon=true/\a<=n then (if cr=true/\c<=n then mx 0 (10 - (n - mx (n - (n - a)%86400) c)) else mx 0 (10 - (n - a)%86400)) else if cr=true/\c<=n then mx 0 (10 - (n - c)) else mx 0 (r - n)
theorem CK(s:WS)(n:Int):xT s n=zV s.aon ((s.sec - s.clock - 1)%86400+1) s.cr s.cl s.ring n:=by
 unfold xT ux m9 qM zV
 generalize (s.sec - s.clock - 1)%86400+1=a
 have e:∀x:Int,n - (n - x)=x:=fun x=>by omega
 cases s.aon<;>cases s.cr<;>by_cases h1:a<=n<;>by_cases h2:s.cl<=n<;>simp[h1,h2,e]
theorem CV{b:Bk}{s:WS}(h:s.idle<b.back):uG b s=b.back - s.idle:=by unfold uG mx;split<;>omega
theorem zI(x b:Int):(x - b)%b=x%b:=Int.sub_emod_right x b
theorem Cq{b:Bk}{s:WS}{n:Int}(w:s.Wk b)(hn:0<=n):u_ b s n=if s.held.isSome=true\/b.back=0 then s.idle else (s.idle+n)%b.back:=by
 unfold u_
 have h0:=w.idle0
 by_cases h:s.held.isSome=true\/b.back=0
 ·rw[Mo h,Mo h]
 ·have hb:0<b.back:=by
   have:¬ b.back=0:=fun z=>h (.inr z)
   have:=w.bk
   omega
  have h1:=w.idle1 hb
  rw[Mx h,Mx h,CV h1]
  by_cases h2:n<b.back - s.idle
  ·rw[Mo h2,Int.emod_eq_of_lt (by omega) (by omega)]
  ·rw[Mx h2,show n - (b.back - s.idle)=s.idle+n - b.back by omega,zI]
theorem vQ(a:Int){b:Int}(h:0<b):a%b<b:=M7 a h
theorem wD(a:Int){b:Int}(h:0<b):0<=a%b:=M6 a (by omega)
theorem E2(aon:Bool)(a:Int)(cr:Bool)(c r n:Int)(hr:r<=10)(hn:0<=n)(hc:cr=true->0<c)(ha:1<=a):0<=zV aon a cr c r n/\zV aon a cr c r n<=10:=by
 unfold zV
 split
 ·split
  ·unfold mx;split<;>(try split)<;>omega
  ·unfold mx;split<;>omega
 ·split
  ·unfold mx;split<;>omega
  ·unfold mx;split<;>omega
theorem WS.Wk.cnt{b:Bk}{s:WS}{n:Int}(w:s.Wk b)(hn:0<=n):(counted b s n).Wk b:=by
 have hr:=E2 s.aon ((s.sec - s.clock - 1)%86400+1) s.cr s.cl s.ring n w.ring1 hn w.cr (by omega)
 rw[<- CK] at hr
 have hl0:=w.lm0
 have hi:=Cq w hn
 have hcl0:=w.cl0
 have hcl1:=w.cl1
 exact {
  bk:=w.bk,mode:=w.mode,clock0:=wD _ (by decide),clock1:=vQ _ (by decide),ah0:=w.ah0,ah1:=w.ah1,am0:=w.am0,am1:=w.am1
  lm0:=by show 0<=x_ s n;unfold x_;split<;>omega
  lk:=w.lk,cm0:=w.cm0,cm1:=w.cm1,cs0:=w.cs0,cs1:=w.cs1
  cl0:=by show 0<=uC s n;unfold uC mx;split<;>(try split)<;>omega
  cl1:=by show uC s n<3600;unfold uC mx;split<;>(try split)<;>omega
  cr:=by
   show runsOn s n=true->0<uC s n
   intro h
   unfold runsOn at h
   unfold uC
   cases hc:s.cr
   ·rw[hc] at h;cases h
   ·rw[hc] at h;simp at h;simp;exact h
  ring0:=hr.1,ring1:=hr.2
  idle0:=by
   show 0<=u_ b s n
   rw[hi]
   split
   ·exact w.idle0
   ·rename_i h
    have:¬ b.back=0:=fun z=>h (.inr z)
    exact M6 _ this
  idle1:=fun hb=>by
   show u_ b s n<b.back
   rw[hi]
   split
   ·exact w.idle1 hb
   ·exact vQ _ hb
  idle2:=fun hb=>by
   show u_ b s n=0
   rw[hi,Mo (.inr hb)]
   exact w.idle2 hb}
theorem qa{b:Bk}(ok:b.Ok){m i:Nat}(hm:m<b.modes.length)(hi:i<6):(b.row m i).2<b.modes.length:=by
 unfold Bk.row
 have e:b.modes.getD m default=b.modes[m]:=by simp[M2,hm]
 rw[e]
 have o:=ok.all _ (List.getElem_mem hm)
 have hi':i<b.modes[m].rows.length:=by rw[o.six];exact hi
 have e2:b.modes[m].rows.getD i (.none,0)=b.modes[m].rows[i]:=by simp[M2,hi']
 rw[e2]
 exact o.nx _ (List.getElem_mem hi')
theorem C1(d:vN)(s:WS):(deed d s).held=s.held:=by
 cases d<;>simp[deed,xa]<;>(repeat' split)<;>rfl
theorem WS.Wk.set{b:Bk}{s:WS}(w:s.Wk b){m c:Int}(m0:0<=m)(m1:m<60)(c0:0<=c)(c1:c<60):(xa s m c).Wk b:=by
 unfold xa
 split
 ·exact w
 ·exact {w with cm0:=m0,cm1:=m1,cs0:=c0,cs1:=c1,cl0:=(by show 0<=60*m+c;omega),cl1:=(by show 60*m+c<3600;omega),cr:=fun h=>by cases h}
theorem WS.Wk.dd{b:Bk}{s:WS}(w:s.Wk b)(d:vN):(deed d s).Wk b:=by
 have c0:=w.clock0;have c1:=w.clock1
 cases d with
 | none=>exact w
 | hour=>exact {w with clock0:=wD _ (by decide),clock1:=vQ _ (by decide)}
 | minute=>exact {w with clock0:=(by show 0<=s.clock - s.clock%3600+(s.clock%3600+60)%3600;omega),clock1:=(by show s.clock - s.clock%3600+(s.clock%3600+60)%3600<86400;omega)}
 | zero=>exact {w with clock0:=(by show 0<=s.clock - s.clock%60;omega),clock1:=(by show s.clock - s.clock%60<86400;omega)}
 | ahour=>exact {w with ah0:=wD _ (by decide),ah1:=vQ _ (by decide)}
 | aminute=>exact {w with am0:=wD _ (by decide),am1:=vQ _ (by decide)}
 | alarm=>exact {w with}
 | run=>exact {w with}
 | lap =>
  show(if s.lr then (if 4<=s.lk.length then s else {s with lk:=s.lk++[s.lm]}) else {s with lm:=0,lk:=[]}:WS).Wk b
  split
  ·split
   ·exact w
   ·exact {w with lk:=(by show(s.lk++[s.lm]).length<=4;simp;omega)}
  ·exact {w with lm0:=Int.le_refl 0,lk:=M_ _}
 | cminute=>exact w.set (wD _ (by decide)) (vQ _ (by decide)) w.cs0 w.cs1
 | csecond=>exact w.set w.cm0 w.cm1 (wD _ (by decide)) (vQ _ (by decide))
 | full=>exact w.set w.cm0 w.cm1 w.cs0 w.cs1
 | count =>
  have hc:(!s.cr&&decide (0<s.cl))=true->0<s.cl:=fun h=>by simp at h;exact h.2
  exact {w with cr:=hc}
theorem WS.Wk.prs{b:Bk}{s:WS}(ok:b.Ok)(w:s.Wk b){i:Nat}(hi:i<6):(press b s i).Wk b:=by
 have z:=w.dd (b.row s.mode i).1
 exact {z with mode:=qa ok w.mode hi}
theorem xN(b:Bk)(s:WS)(i:Nat):(press b s i).held=s.held:=C1 _ _
theorem ub.ix3(x:ub):x.ix+3<6:=by cases x<;>decide
theorem ub.ix6(x:ub):x.ix<6:=by cases x<;>decide
theorem WS.Wk.trn{b:Bk}{s:WS}(ok:b.Ok)(w:s.Wk b):(turned b s).Wk b:=by
 unfold turned
 split
 ·exact {w with mode:=ok.some1}
 ·rename_i x k e
  exact WS.Wk.prs (s:={s with held:=some (x,none)}) ok {w with} x.ix3
theorem Aq{b:Bk}{s:WS}:qK b (turned b s)=none:=by
 unfold turned
 split
 ·rename_i e
  unfold qK
  simp[e,u6]
 ·rename_i x k e
  unfold qK
  rw[xN]
theorem vi{b:Bk}{s:WS}{t:Int}(h:qK b s=some t):1<=t:=by
 unfold qK at h
 split at h
 ·split at h
  ·cases h;exact Ln _ _
  ·cases h
 ·cases h
 ·cases h;exact Ln _ _
theorem WS.Ok.cnt{b:Bk}{s:WS}{n:Int}(w:s.Ok b)(hn:0<=n)(h:∀t,qK b s=some t->n<t):(counted b s n).Ok b:=by
 refine {w.toWk.cnt hn with held:=fun x k e=>?_}
 have e':zH s.held n=some (x,some k):=e
 rcases hs:s.held with _ | ⟨y,_ | j⟩
 ·rw[hs] at e';cases e'
 ·rw[hs] at e';cases e'
 ·rw[hs] at e'
  simp[zH] at e'
  obtain⟨rfl,rfl⟩:=e'
  have hj:=w.held y j hs
  have ht:=h (mx 1 (b.hold - j)) (by unfold qK;rw[hs])
  unfold mx at ht
  split at ht<;>omega
theorem Cw{b:Bk}{s:WS}(ok:b.Ok)(w:s.Wk b):(turned b s).Ok b:=by
 refine {w.trn ok with held:=fun x k e=>?_}
 unfold turned at e
 split at e
 ·rename_i e2
  simp at e
  rw[e2] at e;cases e
 ·rw[xN] at e;cases e
theorem E5{b:Bk}{s:WS}{n:Int}(ok:b.Ok)(w:s.Ok b)(hn:0<=n):(ticked b s n).Ok b:=by
 unfold ticked
 split
 ·rename_i e
  exact w.cnt hn fun t ht=>by rw[e] at ht;cases ht
 ·rename_i t e
  have ht:=vi e
  split
  ·rename_i h
   exact w.cnt hn fun t' ht'=>by rw[e] at ht';cases ht';exact h
  ·rename_i h
   exact(Cw ok (w.toWk.cnt (by omega))).cnt (by omega) fun t' ht'=>by rw[Aq] at ht';cases ht'
theorem Fy{b:Bk}{s:WS}(ok:b.Ok)(w:s.Ok b)(x:ub):(pushed s x).Ok b:=by
 unfold pushed
 split
 ·exact w
 ·have hh:=ok.hold1
  refine {w with ring0:=Int.le_refl 0,ring1:=(by show(0:Int)<=10;decide),idle0:=Int.le_refl 0,idle1:=fun h=>h,idle2:=fun _=>rfl,held:=fun y k e=>?_}
  simp at e
  obtain⟨_,h2,h3⟩:=e
  subst h3
  omega
theorem Hq{b:Bk}{s:WS}(ok:b.Ok)(w:s.Ok b)(x:ub):(letGo b s x).Ok b:=by
 unfold letGo
 split
 ·split
  ·have z:(if (by assumption:Me Int).isSome then press b s x.ix else s).Wk b:=by
    split
    ·exact w.toWk.prs ok x.ix6
    ·exact w.toWk
   exact {z with idle0:=Int.le_refl 0,idle1:=fun h=>h,idle2:=fun _=>rfl,held:=fun y k e=>by cases e}
  ·exact w
 ·exact w
def Ev.Ok:Ev->Prop
 | .ticks n=>1<=n
 | _=>True
theorem zr{b:Bk}{s:WS}(ok:b.Ok)(w:s.Ok b)(e:Ev)(h:e.Ok):(gone b s e).Ok b:=by
 cases e with
 | down x=>exact Fy ok w x
 | up x=>exact Hq ok w x
 | ticks n=>exact E5 ok w (by have:1<=n:=h;omega)
def p7:WS:=⟨0,0,0,0,false,0,false,[],0,0,0,false,0,none,0⟩
theorem xS{b:Bk}(ok:b.Ok):p7.Ok b where
 bk:=ok.back0
 mode:=ok.some1
 clock0:=by decide
 clock1:=by decide
 ah0:=by decide
 ah1:=by decide
 am0:=by decide
 am1:=by decide
 lm0:=by decide
 lk:=by decide
 cm0:=by decide
 cm1:=by decide
 cs0:=by decide
 cs1:=by decide
 cl0:=by decide
 cl1:=by decide
 cr:=by decide
 ring0:=by decide
 ring1:=by decide
 idle0:=by decide
 idle1:=fun h=>h
 idle2:=fun _=>rfl
 held:=fun x k e=>by cases e
def rX(b:Bk)(s:WS)(es:List Ev):WS:=es.foldl (gone b) s
theorem AB{b:Bk}(ok:b.Ok):∀{es:List Ev} {s:WS},s.Ok b->(∀e∈es,e.Ok)->(rX b s es).Ok b
 | [],_,w,_=>w
 | e::es,s,w,h=>AB (es:=es) ok (zr ok w e (h e M4)) fun x hx=>h x (MV _ hx)
theorem CN(b:Bk)(s:WS)(es fs:List Ev):rX b s (es++fs)=rX b (rX b s es) fs:=List.foldl_append
abbrev Pr:=ub×Bool
def Pr.x(p:Pr):Str:=if p.2 then p.1.X else p.1.x
def Pr.ix(p:Pr):Nat:=if p.2 then p.1.ix+3 else p.1.ix
def Pr.code(p:Pr):Nat:=(if p.2 then 65 else 97)+p.1.ix
section
open Builtin Builtin.Str
end
end HW
set_option maxRecDepth 10000
namespace HW
open PySem
def cc:D:=.int 0
def a_:D:=.int 1
def bh:D:=.int 2
def cb:D:=.int 3
def aQ:D:=.int 4
def gm:D:=.int 5
def aR:D:=.int 6
def cR:D:=.int 7
def em:D:=.int 4
def eO:D:=.int 10
def cY:D:=.int 86400
def cF:List Str:=[oS "a",oS "b",oS "c",oS "A",oS "B",oS "C"]
theorem xn{st:D->R->Me R}{body:R->Me Out}{d:D}{ds:LD}{ρ ρ1 ρ2:R}(h1:st d ρ=some ρ1)(h2:body ρ1=some (.nx ρ2)):xi st body (d::ds) ρ=xi st body ds ρ2:=by
 show(st d ρ).bind _=_
 rw[h1]
 show(body ρ1).bind _=_
 rw[h2];rfl
theorem xm{it:R->Me LD}{st:D->R->Me R}{body:R->Me Out}{ρ:R}{ds:LD}{o:Out}(h1:it ρ=some ds)(h2:xi st body ds ρ=some o):xH it st body ρ=some o:=by simp[h1,h2]
theorem l6{f g:R->Me Out}{ρ ρ2:R}(h:f ρ=some (.nx ρ2)):l8 f g ρ=g ρ2:=by simp[h]
theorem wH{c:R->Me Bool}{f g:R->Me Out}{ρ:R}(h:c ρ=some true):vO c f g ρ=f ρ:=by simp[h]
theorem vF{c:R->Me Bool}{f g:R->Me Out}{ρ:R}(h:c ρ=some false):vO c f g ρ=g ρ:=by simp[h]
theorem sY{f g:R->Me Out}{ρ:R}{d:D}(h:f ρ=some (.rt d)):l8 f g ρ=some (.rt d):=by simp[h]
theorem o7{f:R->OD}{st:D->R->Me R}{ρ ρ':R}{d:D}(h:f ρ=some d)(h2:st d ρ=some ρ'):n5 f st ρ=some (.nx ρ'):=by simp[h,h2]
theorem k7{F:LD->OD}{g:R->Me LD}{ρ:R}{ds:LD}{d:D}(h:g ρ=some ds)(h2:F ds=some d):i8 F g ρ=some d:=by simp[h,h2]
theorem n9{f:R->OD}{g:R->Me LD}{ρ:R}{d:D}{ds:LD}(h:f ρ=some d)(h2:g ρ=some ds):i4 f g ρ=some (d::ds):=by simp[h,h2]
theorem l5{F:D->D->OD}{f g:R->OD}{ρ:R}{x y z:D}(h1:f ρ=some x)(h2:g ρ=some y)(h:F x y=some z):k6 F f g ρ=some z:=by simp only[k6,h1,h2,Mn,h]
theorem rj{F:D->D->Me Bool}{f g:R->OD}{ρ:R}{x y:D}{b:Bool}(h1:f ρ=some x)(h2:g ρ=some y)(h:F x y=some b):m6 F f g ρ=some b:=by simp only[m6,h1,h2,Mn,h]
theorem tupS{g:R->Me LD}{ρ:R}{ds:LD}(h:g ρ=some ds):n8 g ρ=some (.tup ds):=by simp[h]
theorem FN{c:R->Me Bool}{ρ:R}{b:Bool}(h:c ρ=some b):AR c ρ=some (.bl b):=by simp[h]
theorem Aa{f:R->OD}{l h:R->Me (Me Int)}{ρ:R}{x d:D}{a b:Me Int}(h1:f ρ=some x)(h2:l ρ=some a)(h3:h ρ=some b)(h4:J5 x a b=some d):H_ f l h ρ=some d:=by simp only[H_,h1,h2,h3,Mn,h4]
theorem J4{c d:R->Me Bool}{ρ:R}(h1:c ρ=some false)(h2:d ρ=some false):AA c d ρ=some false:=by simp[h1,h2]
theorem Lj{c d:R->Me Bool}{ρ:R}(h1:c ρ=some false):yr c d ρ=some false:=by simp[h1]
theorem JX{c d:R->Me Bool}{ρ:R}{b:Bool}(h1:c ρ=some true)(h2:d ρ=some b):yr c d ρ=some b:=by simp[h1,h2]
theorem Id{f g:R->OD}{ρ:R}{d:D}(h1:f ρ=some (.bl true))(h2:g ρ=some d):zm f g ρ=some d:=by simp[h1,h2]
theorem EI{c:R->Me Bool}{ρ:R}{b:Bool}(h:c ρ=some b):AO c ρ=some (!b):=by simp[h]
theorem AD{f:R->OD}{ρ:R}{b:Bool}(h:f ρ=some (.bl b)):vC f ρ=some b:=by simp[h]
theorem Cp{c:R->Me Bool}{f g:R->OD}{ρ:R}{d:D}(h:c ρ=some true)(h2:f ρ=some d):AW c f g ρ=some d:=by simp[h,h2]
theorem Ec{c:R->Me Bool}{f g:R->OD}{ρ:R}{d:D}(h:c ρ=some false)(h2:g ρ=some d):AW c f g ρ=some d:=by simp[h,h2]
theorem K8{c d:R->Me Bool}{ρ:R}(h1:c ρ=some true):AA c d ρ=some true:=by simp[h1]
theorem H8{c d:R->Me Bool}{ρ:R}{b:Bool}(h1:c ρ=some false)(h2:d ρ=some b):AA c d ρ=some b:=by simp[h1,h2]
theorem JD{g:R->Me LD}{ρ:R}{ds:LD}(h:g ρ=some ds):CG g ρ=some (.lst ds):=by simp[h]
theorem Cg{F:D->OD}{f:R->OD}{ρ:R}{x z:D}(h1:f ρ=some x)(h:F x=some z):v9 F f ρ=some z:=by simp only[v9,h1,Mn,h]
theorem l9{k n:Nat}{g:R->Me Out}{ds:LD}{d:D}(h:g (xk n ds)=some (.rt d))(hl:ds.length=k:=by rfl):via k n g ds=some d:=by unfold via;rw[Mo hl,h];rfl
theorem Ci{f g:R->OD}{ρ:R}(h1:f ρ=some (.bl false)):zm f g ρ=some (.bl false):=by simp[h1]
theorem retS{f:R->OD}{ρ:R}{d:D}(h:f ρ=some d):m7 f ρ=some (.rt d):=by simp[h]
theorem modS{i j:Int}(h:0<j):rk (.int i) (.int j)=some (.int (i%j)):=by simp[h]
theorem z_{i j:Int}(h:rC i j=true):vc (.int i) (.int j)=some (.int (i*j)):=by
 show(if rC i j=true then _ else none)=_
 rw[Mo h]
theorem Ly{i j q:Int}(h:0<j)(e:i%j=q):rk (.int i) (.int j)=some (.int q):=by rw[<- e];exact modS h
theorem LR{i:Int}(h:i=0):some (i==0)=some true:=by rw[h];rfl
theorem Ma{i:Int}(h:¬ i=0):some (i==0)=some false:=by rw[M8.mpr h]
theorem dT{p:Prop}[Decidable p](h:p):some (decide p)=some true:=by rw[Nc h]
theorem dF{p:Prop}[Decidable p](h:¬ p):some (decide p)=some false:=by rw[MZ h]
mutual
theorem Ao:∀d:D,qU d=true->Gf d d=true
 | .non,_=>rfl
 | .bl b,_=>beq_self_eq_true b
 | .int i,_=>beq_self_eq_true i
 | .str x,_=>beq_self_eq_true x
 | .tup xs,h=>vx xs h
 | .lst xs,h=>vx xs h
 | .fro xs,h=>vx xs h
 | .obj ..,h=>by cases h
 | .rf ..,h=>by cases h
theorem vx:∀ds:LD,p8 ds=true->yA ds ds=true
 | [],_=>rfl
 | d::ds,h=>by
  have h':(qU d&&p8 ds)=true:=h
  rw[Mp] at h'
  show(Gf d d&&yA ds ds)=true
  rw[Ao d h'.1,vx ds h'.2];rfl
end
theorem Cy{d:D}(h:uu d<=100)(h2:rM d=true):zj d d=some true:=by unfold zj;rw[Mo ⟨h,h2,h2⟩,Ao _ (bD h2)]
theorem yX{d:D}(h:uu d<=100)(h2:rM d=true):Ac d d=some false:=by unfold Ac;rw[Cy h h2];rfl
theorem Bj(l:List Int):ud (l.map D.int)=0:=by induction l with | nil=>rfl | cons a l ih=>simp[ud,uu,ih]
theorem Br(l:List Int):tR (l.map D.int)=true:=by induction l with | nil=>rfl | cons a l ih=>simp[tR,rM,ih]
theorem gM(x:ub):rM (.str x.x)=true:=by rw[rM];cases x<;>decide +kernel
theorem nE(h:Me (ub×Me Int)):uu (uY h)<=1:=by rcases h with _ | ⟨x,_ | k⟩<;>simp[uY,qQ,uu,ud]
theorem oj(h:Me (ub×Me Int)):rM (uY h)=true:=by
 rcases h with _ | ⟨x,_ | k⟩
 ·rfl
 ·simp[uY,qQ,rM,tR];have:=gM x;simp[rM] at this;exact this
 ·simp[uY,qQ,rM,tR];have:=gM x;simp[rM] at this;exact this
theorem pV(s:WS):uu s.d<=100:=by
 have h:=nE s.held
 simp[WS.d,WS.alarmD,WS.lapsD,WS.countD,uu,ud,Bj]
 omega
theorem oy(s:WS):rM s.d=true:=by
 have h:=oj s.held
 simp[WS.d,WS.alarmD,WS.lapsD,WS.countD,rM,tR,Br,h]
theorem Jt(s:WS):Ac s.d s.d=some false:=yX (pV s) (oy s)
theorem LY:8<=sizeLine:=by decide
theorem w0(s:WS):l4 s.d (.int 0)=some (.int (s.mode:Int)):=rfl
theorem w1(s:WS):l4 s.d (.int 1)=some (.int s.clock):=rfl
theorem w2(s:WS):l4 s.d (.int 2)=some s.alarmD:=rfl
theorem w3(s:WS):l4 s.d (.int 3)=some s.lapsD:=rfl
theorem w4(s:WS):l4 s.d (.int 4)=some s.countD:=rfl
theorem w5(s:WS):l4 s.d (.int 5)=some (.int s.ring):=rfl
theorem w6(s:WS):l4 s.d (.int 6)=some (uY s.held):=rfl
theorem w7(s:WS):l4 s.d (.int 7)=some (.int s.idle):=rfl
theorem JO(s:WS):l4 s.alarmD (.int 0)=some (.int s.ah):=rfl
theorem JP(s:WS):l4 s.alarmD (.int 1)=some (.int s.am):=rfl
theorem JQ(s:WS):l4 s.alarmD (.int 2)=some (.bl s.aon):=rfl
theorem J0(s:WS):l4 s.lapsD (.int 0)=some (.int s.lm):=rfl
theorem Km(s:WS):l4 s.lapsD (.int 1)=some (.bl s.lr):=rfl
theorem JL(s:WS):l4 s.lapsD (.int 2)=some (.tup (s.lk.map .int)):=rfl
theorem Iy(s:WS):l4 s.countD (.int 0)=some (.int s.cm):=rfl
theorem Jv(s:WS):l4 s.countD (.int 1)=some (.int s.cs):=rfl
theorem KA(s:WS):l4 s.countD (.int 2)=some (.int s.cl):=rfl
theorem Kf(s:WS):l4 s.countD (.int 3)=some (.bl s.cr):=rfl
theorem b0(b:Bk):l4 b.d (.int 0)=some (.int b.hold):=rfl
theorem b1(b:Bk):l4 b.d (.int 1)=some (.int b.back):=rfl
theorem b2(b:Bk):l4 b.d (.int 2)=some (.tup (b.modes.map Md.d)):=rfl
theorem m0(m:Md):l4 m.d (.int 0)=some (.str m.face.x):=rfl
theorem m1(m:Md):l4 m.d (.int 1)=some (.bl m.stays):=rfl
theorem m2(m:Md):l4 m.d (.int 2)=some (.tup (m.rows.map xD)):=rfl
theorem r0(r:vN×Nat):l4 (xD r) (.int 0)=some (.str r.1.x):=rfl
theorem r1(r:vN×Nat):l4 (xD r) (.int 1)=some (.int (r.2:Int)):=rfl
theorem h0(x:ub)(k:Me Int):l4 (uY (some (x,k))) (.int 0)=some (.str x.x):=rfl
theorem h1(x:ub)(k:Me Int):l4 (uY (some (x,k))) (.int 1)=some (qQ k):=rfl
theorem zw{xs:LD}{i:Nat}(h:i<xs.length):Cj xs (i:Int)=some xs[i]:=by
 unfold Cj Ig
 rw[Mo (by omega),Mo (by omega)]
 simp[h]
theorem lW(b:Bk){m:Nat}(h:m<b.modes.length):l4 (.tup (b.modes.map Md.d)) (.int (m:Int))=some (b.modes.getD m default).d:=by
 show Cj _ _=_
 rw[zw (by simpa using h)]
 simp[M2,h]
theorem pW(m:Md){i:Nat}(h:i<m.rows.length):l4 (.tup (m.rows.map xD)) (.int (i:Int))=some (xD (m.rows.getD i (.none,0))):=by
 show Cj _ _=_
 rw[zw (by simpa using h)]
 simp[M2,h]
theorem og(b:Bk){m:Nat}(h:m<b.modes.length):b.modes.getD m default∈b.modes:=by
 have e:b.modes.getD m default=b.modes[m]:=by simp[M2,h]
 rw[e];exact List.getElem_mem h
theorem IQ{i j:Int}(h1 : -(2 ^ 64)<i)(h2:i<2 ^ 64):vc (.int i) (.int j)=some (.int (i*j)):=by simp[sG h1 h2]
theorem FP(j:Int):vc (.int 3600) (.int j)=some (.int (3600*j)):=IQ (by decide) (by decide)
theorem Gq(j:Int):vc (.int 60) (.int j)=some (.int (60*j)):=IQ (by decide) (by decide)
theorem FS(k:Me Int):tP (qQ k) .non=some k.isSome:=by cases k<;>rfl
theorem IJ(i j:Int):AZ [.int i,.int j]=some (.int (mx i j)):=rfl
def whole:D->Bool
 | .int _=>true
 | _=>false
def within(d:D)(l m:Int):Bool:=match d with
 | .int i=>decide (l<=i)&&decide (i<=m)
 | _=>false
def oneOf(d:D)(ws:LD):Bool:=match d with
 | .str x=>ws.any fun y=>JY y (.str x)
 | _=>false
def Lx(d:D)(m:Int):Bool:=match d with
 | .tup xs=>(xs.length:Int)==m
 | _=>false
noncomputable def wn:LD:=[.str (oS "none"),.str (oS "hour"),.str (oS "minute"),.str (oS "zero"),.str (oS "ahour"),.str (oS "aminute"),.str (oS "alarm"),.str (oS "run"),.str (oS "lap"),.str (oS "cminute"),.str (oS "csecond"),.str (oS "full"),.str (oS "count")]
def yb:LD:=[.str (oS "time"),.str (oS "alarm"),.str (oS "laps"),.str (oS "count")]
def wq(d:D)(m:Int):Bool:=match d with
 | .tup [a,b]=>oneOf a wn&&within b 0 (m - 1)
 | _=>false
def Bi(d:D)(m:Int):Bool:=match d with
 | .tup xs=>xs.length==6&&xs.all fun x=>wq x m
 | _=>false
def vS(d:D)(m:Int):Bool:=match d with
 | .tup [a,b,c]=>oneOf a yb&&(Lp b "bool" && Bi c m)
 | _=>false
def zb(d:D):Bool:=match d with
 | .tup xs=>decide (1<=xs.length)&&(decide (xs.length<=8)&&xs.all fun x=>vS x xs.length)
 | _=>false
def zt(d:D):Bool:=match d with
 | .tup [a,b,c]=>within a 1 9&&(within b 0 60&&zb c)
 | _=>false
theorem within_int{d:D}{l h:Int}(e:within d l h=true):∃i:Int,d=.int i/\l<=i/\i<=h:=by
 cases d with
 | int i=>simp[within] at e;exact⟨i,rfl,e⟩
 | _=>cases e
theorem D0{d:D}(e:Lp d "bool" = true):∃b,d=.bl b:=by
 cases d with
 | bl b=>exact⟨b,rfl⟩
 | _=>simp at e
theorem yL{d:D}{ws:LD}(e:oneOf d ws=true):∃x,d=.str x/\(ws.any fun y=>JY y (.str x))=true:=by
 cases d with
 | str x=>exact⟨x,rfl,e⟩
 | _=>cases e
theorem Fg{d:D}(e:oneOf d wn=true):∃k:vN,d=.str k.x:=by
 obtain⟨x,rfl,h⟩:=yL e
 obtain⟨y,hy,h⟩:=List.any_eq_true.mp h
 have q:∀w:Str,JY (.str w) (.str x)=true->w=x:=fun w z=>NC.mp z
 simp only[wn,Mu,List.not_mem_nil,or_false] at hy
 rcases hy with rfl | rfl | rfl | rfl | rfl | rfl | rfl | rfl | rfl | rfl | rfl | rfl | rfl
 ·exact⟨.none,congrArg D.str (q _ h).symm⟩
 ·exact⟨.hour,congrArg D.str (q _ h).symm⟩
 ·exact⟨.minute,congrArg D.str (q _ h).symm⟩
 ·exact⟨.zero,congrArg D.str (q _ h).symm⟩
 ·exact⟨.ahour,congrArg D.str (q _ h).symm⟩
 ·exact⟨.aminute,congrArg D.str (q _ h).symm⟩
 ·exact⟨.alarm,congrArg D.str (q _ h).symm⟩
 ·exact⟨.run,congrArg D.str (q _ h).symm⟩
 ·exact⟨.lap,congrArg D.str (q _ h).symm⟩
 ·exact⟨.cminute,congrArg D.str (q _ h).symm⟩
 ·exact⟨.csecond,congrArg D.str (q _ h).symm⟩
 ·exact⟨.full,congrArg D.str (q _ h).symm⟩
 ·exact⟨.count,congrArg D.str (q _ h).symm⟩
theorem ER{d:D}(e:oneOf d yb=true):∃k:Face,d=.str k.x:=by
 obtain⟨x,rfl,h⟩:=yL e
 obtain⟨y,hy,h⟩:=List.any_eq_true.mp h
 have q:∀w:Str,JY (.str w) (.str x)=true->w=x:=fun w z=>NC.mp z
 simp only[yb,Mu,List.not_mem_nil,or_false] at hy
 rcases hy with rfl | rfl | rfl | rfl
 ·exact⟨.time,congrArg D.str (q _ h).symm⟩
 ·exact⟨.alarm,congrArg D.str (q _ h).symm⟩
 ·exact⟨.laps,congrArg D.str (q _ h).symm⟩
 ·exact⟨.count,congrArg D.str (q _ h).symm⟩
theorem qc{d:D}{n:Nat}(e:wq d n=true):∃r:vN×Nat,d=xD r/\r.2<n:=by
 unfold wq at e
 split at e
 ·rw[Mp] at e
  obtain⟨k,rfl⟩:=Fg e.1
  obtain⟨i,rfl,h0,h1⟩:=within_int e.2
  refine⟨(k,i.toNat),?_,?_⟩
  ·simp[xD,Int.toNat_of_nonneg h0]
  ·simp;omega
 ·cases e
theorem zq{α:Type}{f:α->D}{P:α->Prop}{q:D->Bool}(h:∀d,q d=true->∃a,d=f a/\P a):∀{ds:LD},ds.all q=true->∃as:List α,ds=as.map f/\∀a∈as,P a
 | [],_=>⟨[],rfl,fun _ h=>by cases h⟩
 | d::ds,e=>by
  rw[Ng,Mp] at e
  obtain⟨a,rfl,ha⟩:=h d e.1
  obtain⟨as,rfl,hs⟩:=zq h e.2
  exact⟨a::as,rfl,fun x hx=>by rcases Mu.mp hx with rfl | hx;exact ha;exact hs x hx⟩
theorem oZ{d:D}{n:Nat}(e:vS d n=true):∃m:Md,d=m.d/\m.Ok n:=by
 unfold vS at e
 split at e
 ·rename_i a b c
  rw[Mp,Mp] at e
  obtain⟨f,rfl⟩:=ER e.1
  obtain⟨s,rfl⟩:=D0 e.2.1
  have e2:=e.2.2
  cases c with
  | tup xs =>
   unfold Bi at e2
   simp only[Mp] at e2
   obtain⟨rs,rfl,hr⟩:=zq (f:=xD) (P:=fun r=>r.2<n) (fun d h=>qc h) e2.2
   refine⟨⟨f,s,rs⟩,rfl,?_,hr⟩
   have:=e2.1
   simpa using this
  | _=>cases e2
 ·cases e
theorem lN{d:D}(e:zt d=true):∃b:Bk,d=b.d/\b.Ok:=by
 unfold zt at e
 split at e
 ·rename_i a b c
  rw[Mp,Mp] at e
  obtain⟨i,rfl,i0,i1⟩:=within_int e.1
  obtain⟨j,rfl,j0,j1⟩:=within_int e.2.1
  have e2:=e.2.2
  cases c with
  | tup xs =>
   unfold zb at e2
   simp only[Mp] at e2
   obtain⟨h1,h2,h3⟩:=e2
   obtain⟨ms,hm,hok⟩:=zq (f:=Md.d) (P:=fun m=>m.Ok xs.length) (fun d h=>oZ h) h3
   have hl:xs.length=ms.length:=by rw[hm];simp
   refine⟨⟨i,j,ms⟩,by rw[hm];rfl,i0,i1,j0,j1,?_,?_,?_⟩
   ·have:=Nm h1;show 1<=ms.length;omega
   ·have:=Nm h2;show ms.length<=8;omega
   ·rw[hl] at hok;exact hok
  | _=>cases e2
 ·cases e
def jX:R->Me Out:=
  (l8 (n5 (k6 rk (k6 vc (k6 p6 (k6 p6 (i5 0) (k6 vc (kI 104729) (i5 1))) (kI 17)) (kI 69621)) (kI 2147483647)) (setAt 2))
  (m7 (k6 rk (k6 p6 (k6 p6 (k6 vc (i5 2) (i5 2)) (k6 vc (kI 3) (i5 2))) (i5 1)) (kI 2147483629))))
def aH:LD->OD:=via 2 3 jX
def uj(n k:Int):Int:=((n+104729*k+17)*69621%2147483647*((n+104729*k+17)*69621%2147483647)+3*((n+104729*k+17)*69621%2147483647)+k)%2147483629
theorem uI(n k:Int):aH [.int n,.int k]=some (.int (uj n k)):=by
 unfold uj
 generalize hq:(n+104729*k+17)*69621%2147483647=q
 have q0:0<=q:=by rw[<- hq];exact M6 _ (by decide)
 have q1:q<2147483647:=by rw[<- hq];exact M7 _ (by decide)
 have m1:rC 104729 k=true:=sG (by decide) (by decide)
 have m2:rC (n+104729*k+17) 69621=true:=yG (by decide) (by decide)
 have m3:rC q q=true:=sG (by omega) (by omega)
 have m4:rC 3 q=true:=sG (by decide) (by decide)
 exact l9 ((l6 (o7 (l5 (l5 (l5 (l5 rfl (l5 rfl rfl (z_ m1)) rfl) rfl rfl) rfl (z_ m2)) rfl (Ly (by decide) hq)) rfl)).trans (retS (l5 (l5 (l5 (l5 rfl rfl (z_ m3)) (l5 rfl rfl (z_ m4)) rfl) rfl rfl) rfl (modS (by decide)))))
def kz:R->Me Out:=
  (l8 (n5 (k6 p6 (kI 1) (k6 rk (i5 0) (kI 8))) (setAt 1))
  (l8 (n5 (n8 (i4 (kS "none") (i4 (kS "hour") (i4 (kS "minute") (i4 (kS "zero") (i4 (kS "ahour") (i4 (kS "aminute") (i4 (kS "alarm") (i4 (kS "run") (i4 (kS "lap") (i4 (kS "cminute") (i4 (kS "csecond") (i4 (kS "full") i7))))))))))))) (setAt 2))
  (l8 (n5 (n8 i7) (setAt 3))
  (l8 (xH (s_ (i5 1)) (setAt 4)
  (l8 (n5 (k6 tm (i8 aH (i4 (i5 0) (i4 (i5 4) i7))) (kI 4)) (setAt 5))
  (l8 (n5 (n8 i7) (setAt 6))
  (l8 (xH (s_ (kI 6)) (setAt 7)
  (l8 (n5 (k6 tm (i8 aH (i4 (i5 5) (i4 (k6 p6 (kI 10) (i5 7)) i7))) (kI 4)) (setAt 8))
  (n5 (k6 p6 (i5 6) (n8 (i4 (n8 (i4 (k6 l4 (k6 p6 (i5 2) (n8 (i4 (kS "count") i7))) (k6 rk (i5 8) (kI 13))) (i4 (k6 rk (k6 tm (i5 8) (kI 16)) (i5 1)) i7))) i7))) (setAt 6))))
  (l8 (n5 (k6 l4 (n8 (i4 (kS "time") (i4 (kS "alarm") (i4 (kS "laps") (i4 (kS "count") i7))))) (k6 rk (i5 5) (kI 4))) (setAt 9))
  (n5 (k6 p6 (i5 3) (n8 (i4 (n8 (i4 (i5 9) (i4 (AR (m6 uV (k6 rk (k6 tm (i5 5) (kI 4)) (kI 2)) (kI 0))) (i4 (i5 6) i7)))) i7))) (setAt 3)))))))
  (m7 (n8 (i4 (k6 p6 (kI 1) (k6 rk (k6 tm (i5 0) (kI 8)) (k6 l4 (n8 (i4 (kI 3) (i4 (kI 9) i7))) (k6 rk (k6 tm (i5 0) (kI 128)) (kI 2))))) (i4 (k6 l4 (n8 (i4 (kI 0) (i4 (kI 7) (i4 (kI 60) (i4 (kI 1) (i4 (kI 20) i7)))))) (k6 rk (k6 tm (i5 0) (kI 256)) (kI 5))) (i4 (i5 3) i7)))))))))
def bP:LD->OD:=via 1 10 kz
def rD:LD:=[.str (oS "none"),.str (oS "hour"),.str (oS "minute"),.str (oS "zero"),.str (oS "ahour"),.str (oS "aminute"),.str (oS "alarm"),.str (oS "run"),.str (oS "lap"),.str (oS "cminute"),.str (oS "csecond"),.str (oS "full")]
theorem zZ:∀x∈wn,oneOf x wn=true/\Fits x:=by
 intro x hx
 simp only[wn,Mu,List.not_mem_nil,or_false] at hx
 rcases hx with h | h | h | h | h | h | h | h | h | h | h | h | h<;>subst h<;>exact⟨by decide,.str _⟩
theorem Ah:∀x∈yb,oneOf x yb=true/\Fits x:=by
 intro x hx
 simp only[yb,Mu,List.not_mem_nil,or_false] at hx
 rcases hx with h | h | h | h<;>subst h<;>exact⟨by decide,.str _⟩
def xx:R->Me Out:=(l8 (n5 (k6 tm (i8 aH (i4 (i5 5) (i4 (k6 p6 (kI 10) (i5 7)) i7))) (kI 4)) (setAt 8))
 (n5 (k6 p6 (i5 6) (n8 (i4 (n8 (i4 (k6 l4 (k6 p6 (i5 2) (n8 (i4 (kS "count") i7))) (k6 rk (i5 8) (kI 13))) (i4 (k6 rk (k6 tm (i5 8) (kI 16)) (i5 1)) i7))) i7))) (setAt 6)))
theorem sz{n:Nat}(h:n<=1000):n<=sizeLine:=MN h (by decide)
theorem nD{N m:Int}{ms rs:LD}{a b f:OD}{q j:Int}(hm:0<m)(hr:rs.length<=100)(hk:∀x∈rs,wq x m=true/\Fits x) :
  ∃o r,xx [some (.int N),some (.int m),some (.tup rD),some (.tup ms),a,some (.int q),some (.tup rs),some (.int j),b,f]=some (.nx [some (.int N),some (.int m),some (.tup rD),some (.tup ms),a,some (.int q),some (.tup (rs++[r])),some (.int j),o,f])/\wq r m=true/\Fits r:=by
 generalize hz:uj q (10+j) / 4=z
 obtain⟨x,hx,hat⟩:=wx (xs:=wn) (i:=z%13) (M6 _ (by decide)) (M7 _ (by decide))
 have w0:0<=z / 16%m:=M6 _ (by omega)
 have w1:z / 16%m<m:=M7 _ hm
 have hl:rs.length+1<=sizeLine:=sz (by omega)
 have hd:rD++[.str (oS "count")]=wn:=rfl
 have hs:rD.length+1<=sizeLine:=by decide
 refine⟨some (.int z),.tup [x,.int (z / 16%m)],?_,?_,?_⟩
 ·have ha:p6 (.tup rD) (.tup [.str (oS "count")])=some (.tup wn):=by
   show(if rD.length+1<=sizeLine then some (D.tup (rD++[.str (oS "count")])) else none)=_
   rw[Mo hs,hd]
  have hb:p6 (.tup rs) (.tup [.tup [x,.int (z / 16%m)]])=some (.tup (rs++[.tup [x,.int (z / 16%m)]])):=by
   show(if rs.length+1<=sizeLine then _ else none)=_
   rw[Mo hl]
  have hv:tm (.int (uj q (10+j))) (.int 4)=some (.int z):=by rw[<- hz];rfl
  exact(l6 (o7 (l5 (k7 (n9 rfl (n9 (l5 rfl rfl rfl) rfl)) (uI _ _)) rfl hv) rfl)).trans (o7 (l5 rfl (tupS (n9 (tupS (n9 (l5 (l5 rfl rfl ha) (l5 rfl rfl (modS (by decide))) hat) (n9 (l5 (l5 rfl rfl rfl) rfl (modS hm)) rfl))) rfl)) hb) rfl)
 ·simp[wq,(zZ x hx).1,within,w0]
  omega
 ·exact .tup (by simp) (by
   intro y hy
   simp at hy
   rcases hy with h | h<;>subst h
   ·exact(zZ _ hx).2
   ·exact .int _)
def zW:R->Me Out:=(l8 (n5 (k6 tm (i8 aH (i4 (i5 0) (i4 (i5 4) i7))) (kI 4)) (setAt 5))
  (l8 (n5 (n8 i7) (setAt 6))
  (l8 (xH (s_ (kI 6)) (setAt 7) xx)
  (l8 (n5 (k6 l4 (n8 (i4 (kS "time") (i4 (kS "alarm") (i4 (kS "laps") (i4 (kS "count") i7))))) (k6 rk (i5 5) (kI 4))) (setAt 9))
  (n5 (k6 p6 (i5 3) (n8 (i4 (n8 (i4 (i5 9) (i4 (AR (m6 uV (k6 rk (k6 tm (i5 5) (kI 4)) (kI 2)) (kI 0))) (i4 (i5 6) i7)))) i7))) (setAt 3))))))
def Jb(N m q:Int)(ms:LD)(a f:OD)(i:Nat)(ρ:R):Prop:=∃rs o j,ρ=[some (.int N),some (.int m),some (.tup rD),some (.tup ms),a,some (.int q),some (.tup rs),j,o,f]/\rs.length=i/\∀x∈rs,wq x m=true/\Fits x
theorem mW{N m q:Int}{ms:LD}{a b c f:OD}(hm:0<m) :
  ∃rs o j,xi (setAt 7) xx (tH 0 6) [some (.int N),some (.int m),some (.tup rD),some (.tup ms),a,some (.int q),some (.tup []),b,c,f]=some (.nx [some (.int N),some (.int m),some (.tup rD),some (.tup ms),a,some (.int q),some (.tup rs),j,o,f])/\rs.length=6/\∀x∈rs,wq x m=true/\Fits x:=by
 obtain⟨ρ',h1,rs,o,j,h2,h3,h4⟩:=xW (st:=setAt 7) (body:=xx) (Jb N m q ms a f) (tH 0 6) 0 [some (.int N),some (.int m),some (.tup rD),some (.tup ms),a,some (.int q),some (.tup []),b,c,f]
  ⟨[],c,b,rfl,rfl,fun x hx=>nomatch hx⟩ (fun i d ρ e p=>by
   obtain⟨rs,o,j,rfl,hl,hk⟩:=p
   obtain⟨rfl,hi⟩:=jI e
   obtain⟨o',r,h1,h2,h3⟩:=nD (N:=N) (ms:=ms) (a:=a) (b:=o) (f:=f) (q:=q) (j:=(i:Int)) hm (rs:=rs) (by omega) hk
   refine⟨_,_,rfl,h1,rs++[r],o',_,rfl,by simp[hl],fun x hx=>?_⟩
   rcases Nz.mp hx with hx | hx
   ·exact hk x hx
   ·cases Mr.mp hx
    exact⟨h2,h3⟩)
 subst h2
 refine⟨rs,o,j,h1,?_,h4⟩
 rw[h3,gQ]
 rfl
theorem mX{N m:Int}{ms:LD}{k:Int}{a b c d e:OD}(hm:0<m)(hms:ms.length<=100) :
  ∃r o1 o2 o3 o4 o5,zW [some (.int N),some (.int m),some (.tup rD),some (.tup ms),some (.int k),a,b,c,d,e]=some (.nx [some (.int N),some (.int m),some (.tup rD),some (.tup (ms++[r])),some (.int k),o1,o2,o3,o4,o5])/\vS r m=true/\Fits r:=by
 generalize hq:uj N k / 4=q
 obtain⟨rs,o,j,h1,h2,h3⟩:=mW (N:=N) (m:=m) (q:=q) (ms:=ms) (a:=some (.int k)) (b:=c) (c:=d) (f:=e) hm
 obtain⟨x,hx,hat⟩:=wx (xs:=yb) (i:=q%4) (M6 _ (by decide)) (M7 _ (by decide))
 have hl:ms.length+1<=sizeLine:=sz (by omega)
 refine⟨.tup [x,.bl (q / 4%2==0),.tup rs],some (.int q),some (.tup rs),j,o,some x,?_,?_,?_⟩
 rotate_left 1
 ·have ha:(rs.all fun y=>wq y m)=true:=M3.mpr fun y hy=>(h3 y hy).1
  simp[vS,(Ah x hx).1,Bi,h2,ha]
 ·refine .tup (by simp) fun y hy=>?_
  simp at hy
  rcases hy with h | h | h<;>subst h
  ·exact(Ah _ hx).2
  ·exact .bl _
  ·exact .tup (by omega) fun y hy=>(h3 y hy).2
 ·have hat':Cj [.str (oS "time"),.str (oS "alarm"),.str (oS "laps"),.str (oS "count")] (q%4)=some x:=hat
  have hb:p6 (.tup ms) (.tup [.tup [x,.bl (q / 4%2==0),.tup rs]])=some (.tup (ms++[.tup [x,.bl (q / 4%2==0),.tup rs]])):=by
   show(if ms.length+1<=sizeLine then _ else none)=_
   rw[Mo hl]
  have hv:tm (.int (uj N k)) (.int 4)=some (.int q):=by rw[<- hq];rfl
  exact(l6 (o7 (l5 (k7 (n9 rfl rfl) (uI _ _)) rfl hv) rfl)).trans ((l6 (o7 (tupS rfl) rfl)).trans ((l6 (xm (ds:=tH 0 6) rfl h1)).trans ((l6 (o7 (l5 rfl (l5 rfl rfl (modS (by decide))) hat') rfl)).trans
   (o7 (l5 rfl (tupS (n9 (tupS (n9 rfl (n9 (FN (rj (l5 (l5 rfl rfl rfl) rfl (modS (by decide))) rfl rfl)) rfl))) rfl)) hb) rfl))))
def IK(N m:Int)(i:Nat)(ρ:R):Prop:=∃ms a b c d e f,ρ=[some (.int N),some (.int m),some (.tup rD),some (.tup ms),a,b,c,d,e,f]/\ms.length=i/\∀x∈ms,vS x m=true/\Fits x
theorem i_(N:Int):∃b,bP [.int N]=some b/\zt b=true/\Fits b:=by
 generalize hM:1+N%8=m
 have hm0:0<m:=by have:=M6 N (show(8:Int)≠0 by decide);omega
 have hm8:m<=8:=by have:=M7 N (show(0:Int)<8 by decide);omega
 obtain⟨ρ',h1,ms,a,b,c,d,e,f,h2,h3,h4⟩:=xW (st:=setAt 4) (body:=zW) (IK N m) (tH 0 m) 0 [some (.int N),some (.int m),some (.tup rD),some (.tup []),none,none,none,none,none,none]
  ⟨[],none,none,none,none,none,none,rfl,rfl,fun x hx=>nomatch hx⟩ (fun i d ρ e p=>by
   obtain⟨ms,a,b,c,d',e',f,rfl,hl,hk⟩:=p
   obtain⟨rfl,hi⟩:=jI e
   obtain⟨r,o1,o2,o3,o4,o5,h1,h2,h3⟩:=mX (N:=N) (ms:=ms) (k:=(i:Int)) (a:=b) (b:=c) (c:=d') (d:=e') (e:=f) hm0 (by omega)
   refine⟨_,_,rfl,h1,ms++[r],_,_,_,_,_,_,rfl,by simp[hl],fun x hx=>?_⟩
   rcases Nz.mp hx with hx | hx
   ·exact hk x hx
   ·cases Mr.mp hx
    exact⟨h2,h3⟩)
 subst h2
 rw[gQ] at h3
 have hlen:((ms.length:Nat):Int)=m:=by omega
 have hr : -4611686018427387904<=m/\m<4611686018427387904:=by omega
 obtain⟨p,hp,hat⟩:=wx (xs:=[.int 3,.int 9]) (i:=N / 128%2) (M6 _ (by decide)) (M7 _ (by decide))
 have hp':∃v:Int,p=.int v/\0<v/\v<=9:=by
  simp at hp
  rcases hp with h | h<;>subst h
  ·exact⟨3,rfl,by decide,by decide⟩
  ·exact⟨9,rfl,by decide,by decide⟩
 obtain⟨v,rfl,hv0,hv9⟩:=hp'
 obtain⟨p2,hp2,hat2⟩:=wx (xs:=[.int 0,.int 7,.int 60,.int 1,.int 20]) (i:=N / 256%5) (M6 _ (by decide)) (M7 _ (by decide))
 have hp2':∃v:Int,p2=.int v/\0<=v/\v<=60:=by
  simp at hp2
  rcases hp2 with h | h | h | h | h<;>subst h
  ·exact⟨0,rfl,by decide,by decide⟩
  ·exact⟨7,rfl,by decide,by decide⟩
  ·exact⟨60,rfl,by decide,by decide⟩
  ·exact⟨1,rfl,by decide,by decide⟩
  ·exact⟨20,rfl,by decide,by decide⟩
 obtain⟨v2,rfl,hv20,hv260⟩:=hp2'
 have w0:0<=N / 8%v:=M6 _ (by omega)
 have w1:N / 8%v<v:=M7 _ hv0
 refine⟨.tup [.int (1+N / 8%v),.int v2,.tup ms],?_,?_,?_⟩
 ·have hi:s_ (i5 1) [some (.int N),some (.int m),some (.tup rD),some (.tup []),none,none,none,none,none,none]=some (tH 0 m):=by
   show(if -4611686018427387904<=m/\m<4611686018427387904 then some (tH 0 m) else none)=_
   rw[Mo hr]
  have h0:p6 (.int 1) (.int (N%8))=some (.int m):=by rw[<- hM];rfl
  exact l9 ((l6 (o7 (l5 rfl (l5 rfl rfl (modS (by decide))) h0) rfl)).trans ((l6 (o7 rfl rfl)).trans ((l6 (o7 (tupS rfl) rfl)).trans ((l6 (xm hi h1)).trans (retS (tupS (n9 (l5 rfl (l5 (l5 rfl rfl rfl) (l5 rfl (l5 (l5 rfl rfl rfl) rfl (modS (by decide))) hat) (modS hv0)) rfl) (n9 (l5 rfl (l5 (l5 rfl rfl rfl) rfl (modS (by decide))) hat2) rfl))))))))
 ·have ha:(ms.all fun y=>vS y ms.length)=true:=M3.mpr fun y hy=>by rw[hlen];exact(h4 y hy).1
  have g1:1<=ms.length:=by omega
  have g8:ms.length<=8:=by omega
  simp[zt,within,zb,ha,g1,g8]
  omega
 ·refine .tup (by simp) fun y hy=>?_
  simp at hy
  rcases hy with h | h | h<;>subst h
  ·exact .int _
  ·exact .int _
  ·exact .tup (by omega) fun y hy=>(h4 y hy).2
def iw:R->Me Out:=
  (l8 (vO (m6 HL (i5 1) (i8 wM (i4 (i5 0) i7)))
  (m7 (k6 l4 (i5 0) (i5 1)))
  rg)
  (m7 (kI 0)))
def bC:LD->OD:=via 2 2 iw
theorem CU(ns:List Int)(k:Int)(h0:0<=k):∃c,bC [.fro (ns.map .int),.int k]=some (.int c):=by
 obtain⟨n,rfl⟩:=Int.eq_ofNat_of_zero_le h0
 by_cases h1:(n:Int)<((ns.map D.int).length:Int)
 ·have h2:n<(ns.map D.int).length:=Int.ofNat_lt.mp h1
  have h3:n<ns.length:=by rw[Ms] at h2;exact h2
  refine⟨ns[n],l9 (sY ((wH (rj rfl (k7 (F:=wM) rfl rfl) (dT h1))).trans (retS (l5 rfl rfl ?_))))⟩
  exact(zw h2).trans (by rw[List.getElem_map])
 ·exact⟨0,l9 ((l6 (vF (rj rfl (k7 (F:=wM) rfl rfl) (dF h1)))).trans (retS rfl))⟩
def jj:R->Me Out:=
  (l8 (n5 (k6 rk (k6 vc (k6 p6 (k6 p6 (i8 bC (i4 (i5 0) (i4 (i5 1) i7))) (k6 vc (kI 7919) (i5 1))) (kI 1)) (kI 48271)) (kI 2147483647)) (setAt 2))
  (m7 (k6 rk (k6 p6 (k6 p6 (k6 vc (i5 2) (i5 2)) (k6 vc (kI 7) (i5 2))) (i5 1)) (kI 2147483629))))
def aX:LD->OD:=via 2 3 jj
theorem tV(ns:List Int)(k:Int)(h0:0<=k):∃m,aX [.fro (ns.map .int),.int k]=some (.int m)/\0<=m:=by
 obtain⟨c,hc⟩:=CU ns k h0
 generalize hq:(c+7919*k+1)*48271%2147483647=q
 have q0:0<=q:=by rw[<- hq];exact M6 _ (by decide)
 have q1:q<2147483647:=by rw[<- hq];exact M7 _ (by decide)
 have m1:rC 7919 k=true:=sG (by decide) (by decide)
 have m2:rC (c+7919*k+1) 48271=true:=yG (by decide) (by decide)
 have m3:rC q q=true:=sG (by omega) (by omega)
 have m4:rC 7 q=true:=sG (by decide) (by decide)
 refine⟨(q*q+7*q+k)%2147483629,?_,M6 _ (by decide)⟩
 exact l9 ((l6 (o7 (l5 (l5 (l5 (l5 (k7 rfl hc) (l5 rfl rfl (z_ m1)) rfl) rfl rfl) rfl (z_ m2)) rfl (Ly (by decide) hq)) rfl)).trans (retS (l5 (l5 (l5 (l5 rfl rfl (z_ m3)) (l5 rfl rfl (z_ m4)) rfl) rfl rfl) rfl (modS (by decide)))))
def jV:R->Me Out:=
  (l8 (vO (m6 uV (k6 rk (i5 1) (kI 2)) (kI 0))
  (m7 (i5 0))
  rg)
  (l8 (n5 (k6 rk (k6 tm (i5 1) (kI 2)) (i8 wM (i4 (k6 l4 (i5 0) (kI 2)) i7))) (setAt 2))
  (l8 (n5 (n8 (i4 (n8 (i4 (kS "csecond") (i4 (kI 0) i7))) (i4 (n8 (i4 (kS "count") (i4 (i5 2) i7))) (i4 (n8 (i4 (kS "aminute") (i4 (kI 0) i7))) (i4 (n8 (i4 (kS "alarm") (i4 (kI 0) i7))) (i4 (n8 (i4 (kS "full") (i4 (kI 0) i7))) (i4 (n8 (i4 (kS "none") (i4 (i5 2) i7))) i7))))))) (setAt 3))
  (m7 (n8 (i4 (k6 l4 (i5 0) (kI 0)) (i4 (k6 l4 (i5 0) (kI 1)) (i4 (k6 p6 (n8 (i4 (n8 (i4 (kS "count") (i4 (fun _=>some (.bl true)) (i4 (i5 3) i7)))) i7)) (H_ (k6 l4 (i5 0) (kI 2)) (aP (kI 1)) JZ)) i7))))))))
def bT:LD->OD:=via 2 4 jV
def xC(b:Bk)(n:Int):Bk:=if n%2=0 then b else ⟨b.hold,b.back,⟨.count,true,[(.csecond,0),(.count,(n / 2%(b.modes.length:Int)).toNat),(.aminute,0),(.alarm,0),(.full,0),(.none,(n / 2%(b.modes.length:Int)).toNat)]⟩::b.modes.tail⟩
theorem D2{b:Bk}(ok:b.Ok)(n:Int):(xC b n).Ok:=by
 unfold xC
 split
 ·exact ok
 ·have h1:=ok.some1
  have h0:(0:Int)<(b.modes.length:Int):=by omega
  have m0:=M6 (n / 2) (show(b.modes.length:Int)≠0 by omega)
  have m1:=M7 (n / 2) h0
  have hl:b.modes.tail.length+1=b.modes.length:=by rw[List.length_tail];omega
  generalize hg:n / 2%(b.modes.length:Int)=g at *
  refine⟨ok.hold1,ok.hold9,ok.back0,ok.back60,Nat.succ_le_succ (M_ _),by show b.modes.tail.length+1<=8;rw[hl];exact ok.some8,fun m hm=>?_⟩
  show m.Ok (b.modes.tail.length+1)
  rw[hl]
  rcases Mu.mp hm with rfl | hm
  ·refine⟨rfl,fun r hr=>?_⟩
   simp only[Mu,List.not_mem_nil,or_false] at hr
   rcases hr with rfl | rfl | rfl | rfl | rfl | rfl<;>show _<b.modes.length<;>omega
  ·exact ok.all m (List.mem_of_mem_tail hm)
theorem IC(xs ys:LD):cutD (xs++ys) (some (xs.length:Int)) none=ys:=by
 unfold cutD Eh
 dsimp only
 rw[Mx (by omega)]
 simp
theorem E1(m:D)(ms:LD):J5 (.tup (m::ms)) (some 1) none=some (.tup ms):=by
 show some (D.tup (cutD (m::ms) (some 1) none))=_
 rw[show cutD (m::ms) (some 1) none=ms from IC [m] ms]
theorem pr{b:Bk}(ok:b.Ok)(n:Int):bT [b.d,.int n]=some (xC b n).d:=by
 have h1:=ok.some1
 have h0:(b.modes.length:Int)≠0:=by omega
 have m0:=M6 (n / 2) h0
 have z:1000<=sizeLine:=by decide
 unfold xC
 by_cases h:n%2=0
 ·rw[Mo h]
  exact l9 (sY ((wH (rj (l5 rfl rfl (modS (by decide))) rfl (by show some (n%2==0)=some true;rw[h];rfl))).trans (retS rfl)))
 ·rw[Mx h]
  have hlen:wM [.tup (b.modes.map Md.d)]=some (.int (b.modes.length:Int)):=by show some (D.int ((b.modes.map Md.d).length:Int))=_;rw[Ms]
  have hms:b.modes.map Md.d=(b.modes.map Md.d).head!::b.modes.tail.map Md.d:=by
   cases hb:b.modes with
   | nil=>rw[hb] at h1;exact MY h1 (by decide)
   | cons m ms=>rfl
  have hsl:J5 (.tup (b.modes.map Md.d)) (some 1) none=some (.tup (b.modes.tail.map Md.d)):=by rw[hms,E1]
  have e8:=ok.some8
  have htl:b.modes.tail.length<=8:=by rw[List.length_tail];omega
  have had:∀x:D,p6 (.tup [x]) (.tup (b.modes.tail.map Md.d))=some (.tup (x::b.modes.tail.map Md.d)):=fun x=>by
   show(if [x].length+(b.modes.tail.map Md.d).length<=sizeLine then _ else none)=_
   rw[Mo (by rw[Ms];show 1+_<=_;omega)];rfl
  have hg:((n / 2%(b.modes.length:Int)).toNat:Int)=n / 2%(b.modes.length:Int):=Int.toNat_of_nonneg m0
  generalize hgg:n / 2%(b.modes.length:Int)=g at *
  have s1:n5 (k6 rk (k6 tm (i5 1) (kI 2)) (i8 wM (i4 (k6 l4 (i5 0) (kI 2)) i7))) (setAt 2) [some b.d,some (.int n),none,none]=some (.nx [some b.d,some (.int n),some (.int g),none]):=by
   rw[<- hgg]
   exact o7 (l5 (l5 rfl rfl rfl) (k7 (n9 (l5 rfl rfl rfl) rfl) hlen) (modS (by omega))) rfl
  refine l9 ((l6 (vF (rj (l5 rfl rfl (modS (by decide))) rfl (by show some (n%2==0)=some false;rw[M8.mpr h])))).trans ((l6 s1).trans ((l6 (o7 (d:=.tup [.tup [.str (oS "csecond"),.int 0],.tup [.str (oS "count"),.int g],.tup [.str (oS "aminute"),.int 0],.tup [.str (oS "alarm"),.int 0],.tup [.str (oS "full"),.int 0],.tup [.str (oS "none"),.int g]]) rfl rfl)).trans ?_)))
  refine(retS (tupS (n9 (l5 rfl rfl rfl) (n9 (l5 rfl rfl rfl) (n9 (l5 (x:=.tup [.tup [.str (oS "count"),.bl true,.tup [.tup [.str (oS "csecond"),.int 0],.tup [.str (oS "count"),.int g],.tup [.str (oS "aminute"),.int 0],.tup [.str (oS "alarm"),.int 0],.tup [.str (oS "full"),.int 0],.tup [.str (oS "none"),.int g]]]]) rfl (Aa (l5 rfl rfl rfl) rfl rfl hsl) (had _)) rfl))))).trans ?_
  rw[<- hg];rfl
def jQ:R->Me Out:=
  (l8 (n5 (k6 l4 (kS "abcaab") (k6 rk (k6 tm (i5 0) (kI 8)) (kI 6))) (setAt 1))
  (l8 (n5 (k6 rk (i5 0) (kI 8)) (setAt 2))
  (l8 (vO (m6 HL (i5 2) (kI 3))
  (m7 (n8 (i4 (kS "down") (i4 (i5 1) i7))))
  rg)
  (l8 (vO (m6 HL (i5 2) (kI 6))
  (m7 (n8 (i4 (kS "up") (i4 (i5 1) i7))))
  rg)
  (m7 (n8 (i4 (kS "ticks") (i4 (k6 p6 (kI 1) (k6 rk (k6 tm (i5 0) (kI 64)) (k6 l4 (n8 (i4 (kI 4) (i4 (kI 12) (i4 (kI 130) i7)))) (k6 rk (k6 tm (i5 0) (kI 4096)) (kI 3))))) i7))))))))
def bp:LD->OD:=via 1 3 jQ
def G7:Ev->Prop
 | .ticks n=>n<=130
 | _=>True
def Ev.Lt(e:Ev):Prop:=e.Ok/\G7 e
theorem Lc{i:Int}(h0:0<=i)(h1:i<6):∃x:ub,l4 (.str (oS "abcaab")) (.int i)=some (.str x.x):=by
 have:i=0\/i=1\/i=2\/i=3\/i=4\/i=5:=by omega
 rcases this with rfl | rfl | rfl | rfl | rfl | rfl
 ·exact⟨.a,rfl⟩
 ·exact⟨.b,rfl⟩
 ·exact⟨.c,rfl⟩
 ·exact⟨.a,rfl⟩
 ·exact⟨.a,rfl⟩
 ·exact⟨.b,rfl⟩
theorem Jc{i:Int}(h0:0<=i)(h1:i<3):∃t:Int,l4 (.tup [.int 4,.int 12,.int 130]) (.int i)=some (.int t)/\0<t/\t<=130:=by
 have:i=0\/i=1\/i=2:=by omega
 rcases this with rfl | rfl | rfl
 ·exact⟨4,rfl,by decide,by decide⟩
 ·exact⟨12,rfl,by decide,by decide⟩
 ·exact⟨130,rfl,by decide,by decide⟩
theorem AX(n:Int):∃e:Ev,bp [.int n]=some e.d/\e.Lt:=by
 obtain⟨x,hx⟩:=Lc (i:=n / 8%6) (by omega) (by omega)
 by_cases h1:n%8<3
 ·exact⟨.down x,l9 ((l6 (o7 (l5 rfl (l5 (l5 rfl rfl rfl) rfl (modS (by decide))) hx) rfl)).trans ((l6 (o7 (l5 rfl rfl (modS (by decide))) rfl)).trans (sY ((wH (rj rfl rfl (dT h1))).trans (retS rfl))))),trivial,trivial⟩
 ·by_cases h2:n%8<6
  ·exact⟨.up x,l9 ((l6 (o7 (l5 rfl (l5 (l5 rfl rfl rfl) rfl (modS (by decide))) hx) rfl)).trans ((l6 (o7 (l5 rfl rfl (modS (by decide))) rfl)).trans ((l6 (vF (rj rfl rfl (dF h1)))).trans (sY ((wH (rj rfl rfl (dT h2))).trans (retS rfl)))))),trivial,trivial⟩
  ·obtain⟨t,ht,t0,t1⟩:=Jc (i:=n / 4096%3) (by omega) (by omega)
   have hm:=M6 (n / 64) (show t≠0 by omega)
   have hm2:=M7 (n / 64) t0
   exact⟨.ticks (1+n / 64%t),l9 ((l6 (o7 (l5 rfl (l5 (l5 rfl rfl rfl) rfl (modS (by decide))) hx) rfl)).trans ((l6 (o7 (l5 rfl rfl (modS (by decide))) rfl)).trans ((l6 (vF (rj rfl rfl (dF h1)))).trans ((l6 (vF (rj rfl rfl (dF h2)))).trans (retS (tupS (n9 rfl (n9 (l5 rfl (l5 (l5 rfl rfl rfl) (l5 rfl (l5 (l5 rfl rfl rfl) rfl (modS (by decide))) ht) (modS t0)) rfl) rfl)))))))),by show 1<=_;omega,by show _<=130;omega⟩
def fg:R->Me Out:=
 (m7 (i8 zx (i4 (ym 1 (s_ (k6 rk (i5 0) (k6 p6 (i5 1) (kI 1)))) (setAt 0) uF (i8 bp (i4 (k6 tm (i8 aH (i4 (i5 1) (i4 (k6 p6 (kI 40) (i5 0)) i7))) (kI 4)) i7))) i7)))
def bL:LD->OD:=via 2 2 fg
theorem gY(n m:Int)(hm:0<=m)(hm2:m<=100):∃es:List Ev,bL [.int n,.int m]=some (.tup (es.map Ev.d))/\(∀e∈es,e.Lt)/\es.length<=m.toNat:=by
 have hk0:=M6 n (show m+1≠0 by omega)
 have hk1:=M7 n (show 0<m+1 by omega)
 have hp:0<m+1:=by omega
 have key:∀(ds:LD) (ρ:R),(∀d∈ds,∃i:Int,d=.int i)->∃es:List Ev,rQ (setAt 0) uF (i8 bp (i4 (k6 tm (i8 aH (i4 (i5 1) (i4 (k6 p6 (kI 40) (i5 0)) i7))) (kI 4)) i7)) ds (none::some (.int n)::ρ)=some (es.map Ev.d)/\(∀e∈es,e.Lt)/\es.length=ds.length:=by
  intro ds ρ
  induction ds with
  | nil=>intro _;exact⟨[],rfl,(fun _ h=>by cases h),rfl⟩
  | cons d ds ih =>
   intro h
   obtain⟨i,rfl⟩:=h d M4
   obtain⟨es,h1,h2,h3⟩:=ih fun x hx=>h x (MV _ hx)
   obtain⟨e,e1,e2⟩:=AX (uj n (40+i) / 4)
   refine⟨e::es,?_,?_,by simp[h3]⟩
   ·simp[rQ,uI,e1] at h1 ⊢
    rw[h1]
   ·intro x hx
    rcases Mu.mp hx with rfl | hx
    ·exact e2
    ·exact h2 x hx
 obtain⟨es,h1,h2,h3⟩:=key (tH 0 (n%(m+1))) [some (.int m)] (fun d hd=>by
  obtain⟨i,hi⟩:=List.mem_iff_getElem?.mp hd
  obtain⟨rfl,_⟩:=jI hi
  exact⟨_,rfl⟩)
 rw[gQ] at h3
 have hz:(tH 0 (n%(m+1))).length<=sizeLine:=by rw[gQ];exact MN (show(n%(m+1)).toNat<=1000 by omega) (by decide)
 refine⟨es,?_,h2,by rw[h3];omega⟩
 have hr : -(2 ^ 62:Int)<=n%(m+1)/\n%(m+1)<2 ^ 62:=by omega
 have hlc:ym 1 (s_ (k6 rk (i5 0) (k6 p6 (i5 1) (kI 1)))) (setAt 0) uF (i8 bp (i4 (k6 tm (i8 aH (i4 (i5 1) (i4 (k6 p6 (kI 40) (i5 0)) i7))) (kI 4)) i7)) [some (.int n),some (.int m)]=some (.lst (es.map Ev.d)):=by
  have hi:s_ (k6 rk (i5 0) (k6 p6 (i5 1) (kI 1))) [some (.int n),some (.int m)]=some (tH 0 (n%(m+1))):=by
   show(if 0<m+1 then some (D.int (n%(m+1))) else none).bind _=_
   rw[Mo hp]
   show(if -(2 ^ 62:Int)<=n%(m+1)/\n%(m+1)<2 ^ 62 then some (tH 0 (n%(m+1))) else none)=_
   rw[Mo hr]
  unfold ym
  rw[hi]
  show(if (tH 0 (n%(m+1))).length<=sizeLine then _ else none)=_
  rw[Mo hz]
  show(rQ _ _ _ _ (none::some (.int n)::[some (.int m)])).map _=_
  rw[h1]
  rfl
 show(if (2:Nat)=2 then w9 (fg [some (.int n),some (.int m)]) else none)=_
 rw[Mo rfl]
 unfold fg
 simp only[m7,i8,i4,i7,hlc]
 rfl
def jL:R->Me Out:=
 (m7 (zm (AR (m6 tP (k6 l4 (i5 0) (fun _=>some aR)) (fun _=>some .non))) (AR (m6 uV (k6 l4 (k6 l4 (i5 0) (fun _=>some aR)) (kI 0)) (i5 1)))))
def bo:LD->OD:=via 2 2 jL
theorem GH(x y:ub):uV (.str x.x) (.str y.x)=some (decide (x=y)):=by cases x<;>cases y<;>rfl
theorem fP(s:WS)(x:ub):bo [s.d,.str x.x]=some (.bl (match s.held with | some (y,_)=>decide (y=x) | none=>false)):=by
 have e6:=w6 s
 rcases hs:s.held with _ | ⟨y,k⟩<;>rw[hs] at e6
 ·exact l9 (retS (Ci (FN (rj (l5 rfl rfl e6) rfl rfl))))
 ·exact l9 (retS (Id (FN (rj (l5 rfl rfl e6) rfl rfl)) (FN (rj (l5 (l5 rfl rfl e6) rfl (h0 y k)) rfl (GH y x)))))
def lg:R->Me Out:=
 (m7 (zm (i8 bo (i4 (i5 0) (i4 (i5 1) i7))) (AR (m6 tP (k6 l4 (k6 l4 (i5 0) (fun _=>some aR)) (kI 1)) (fun _=>some .non)))))
def bB:LD->OD:=via 2 2 lg
theorem ia(s:WS)(x:ub):bB [s.d,.str x.x]=some (.bl (match s.held with | some (y,k)=>decide (y=x)&&k.isSome | none=>false)):=by
 have e:=fP s x
 have e6:=w6 s
 rcases hs:s.held with _ | ⟨y,k⟩<;>rw[hs] at e e6
 ·exact l9 (retS (Ci (k7 rfl e)))
 ·by_cases hy:y=x
  ·simp only[hy,decide_true,Bool.true_and] at e ⊢
   exact l9 (retS (Id (k7 rfl e) (FN (rj (l5 (l5 rfl rfl e6) rfl (h1 y k)) rfl (FS k)))))
  ·simp only[hy,decide_false,Bool.false_and] at e ⊢
   exact l9 (retS (Ci (k7 rfl e)))
def qG:R->Me Out:=
 (m7 (k6 p6 (k6 p6 (H_ (i5 0) JZ (aP (i5 1))) (n8 (i4 (i5 2) i7))) (H_ (i5 0) (aP (k6 p6 (i5 1) (kI 1))) JZ)))
def aG:LD->OD:=via 3 3 qG
section
variable(a b c d e f g i x:D)
theorem uW{xs ys:LD}(h:xs.length+ys.length<=8):p6 (.tup xs) (.tup ys)=some (.tup (xs++ys)):=by
 show(if xs.length+ys.length<=sizeLine then _ else none)=_
 rw[Mo (MN h LY)]
theorem Ki:aG [.tup [a,b,c,d,e,f,g,i],.int 0,x]=some (.tup [x,b,c,d,e,f,g,i]):=l9 (retS (l5 (l5 (Aa rfl rfl rfl rfl) (tupS (n9 rfl rfl)) (uW (show 1<=8 by decide))) (Aa rfl rfl rfl rfl) (uW (show 8<=8 by decide))))
theorem Kc:aG [.tup [a,b,c,d,e,f,g,i],.int 1,x]=some (.tup [a,x,c,d,e,f,g,i]):=l9 (retS (l5 (l5 (Aa rfl rfl rfl rfl) (tupS (n9 rfl rfl)) (uW (show 2<=8 by decide))) (Aa rfl rfl rfl rfl) (uW (show 8<=8 by decide))))
theorem put2:aG [.tup [a,b,c,d,e,f,g,i],.int 2,x]=some (.tup [a,b,x,d,e,f,g,i]):=l9 (retS (l5 (l5 (Aa rfl rfl rfl rfl) (tupS (n9 rfl rfl)) (uW (show 3<=8 by decide))) (Aa rfl rfl rfl rfl) (uW (show 8<=8 by decide))))
theorem put3:aG [.tup [a,b,c,d,e,f,g,i],.int 3,x]=some (.tup [a,b,c,x,e,f,g,i]):=l9 (retS (l5 (l5 (Aa rfl rfl rfl rfl) (tupS (n9 rfl rfl)) (uW (show 4<=8 by decide))) (Aa rfl rfl rfl rfl) (uW (show 8<=8 by decide))))
theorem KY:aG [.tup [a,b,c,d,e,f,g,i],.int 4,x]=some (.tup [a,b,c,d,x,f,g,i]):=l9 (retS (l5 (l5 (Aa rfl rfl rfl rfl) (tupS (n9 rfl rfl)) (uW (show 5<=8 by decide))) (Aa rfl rfl rfl rfl) (uW (show 8<=8 by decide))))
theorem Ke:aG [.tup [a,b,c,d,e,f,g,i],.int 5,x]=some (.tup [a,b,c,d,e,x,g,i]):=l9 (retS (l5 (l5 (Aa rfl rfl rfl rfl) (tupS (n9 rfl rfl)) (uW (show 6<=8 by decide))) (Aa rfl rfl rfl rfl) (uW (show 8<=8 by decide))))
theorem Hn:aG [.tup [a,b,c,d,e,f,g,i],.int 6,x]=some (.tup [a,b,c,d,e,f,x,i]):=l9 (retS (l5 (l5 (Aa rfl rfl rfl rfl) (tupS (n9 rfl rfl)) (uW (show 7<=8 by decide))) (Aa rfl rfl rfl rfl) (uW (show 8<=8 by decide))))
theorem Ku:aG [.tup [a,b,c,d,e,f,g,i],.int 7,x]=some (.tup [a,b,c,d,e,f,g,x]):=l9 (retS (l5 (l5 (Aa rfl rfl rfl rfl) (tupS (n9 rfl rfl)) (uW (show 8<=8 by decide))) (Aa rfl rfl rfl rfl) (uW (show 8<=8 by decide))))
end
theorem Li(s:WS)(m:Nat):aG [s.d,.int 0,.int (m:Int)]=some {s with mode:=m}.d:=Ki ..
theorem Ky(s:WS)(c:Int):aG [s.d,.int 1,.int c]=some {s with clock:=c}.d:=Kc ..
theorem La(s:WS)(h m:Int)(o:Bool):aG [s.d,.int 2,.tup [.int h,.int m,.bl o]]=some {s with ah:=h,am:=m,aon:=o}.d:=put2 ..
theorem Kn(s:WS)(m:Int)(r:Bool)(k:List Int):aG [s.d,.int 3,.tup [.int m,.bl r,.tup (k.map .int)]]=some {s with lm:=m,lr:=r,lk:=k}.d:=put3 ..
theorem Ls(s:WS)(m c l:Int)(r:Bool):aG [s.d,.int 4,.tup [.int m,.int c,.int l,.bl r]]=some {s with cm:=m,cs:=c,cl:=l,cr:=r}.d:=KY ..
theorem Lq(s:WS)(r:Int):aG [s.d,.int 5,.int r]=some {s with ring:=r}.d:=Ke ..
theorem II(s:WS):aG [s.d,.int 6,.non]=some {s with held:=none}.d:=Hn ..
theorem Io(s:WS)(x:ub)(k:Me Int):aG [s.d,.int 6,.tup [.str x.x,qQ k]]=some {s with held:=some (x,k)}.d:=Hn ..
theorem KR(s:WS)(x:ub):aG [s.d,.int 6,.tup [.str x.x,.non]]=some {s with held:=some (x,none)}.d:=Hn ..
theorem JS(s:WS)(i:Int):aG [s.d,.int 7,.int i]=some {s with idle:=i}.d:=Ku ..
def dX:R->Me Out:=
  (l8 (n5 (k6 l4 (i5 0) (fun _=>some bh)) (setAt 1))
  (m7 (i8 aG (i4 (i5 0) (i4 (fun _=>some bh) (i4 (n8 (i4 (k6 rk (k6 p6 (k6 l4 (i5 1) (kI 0)) (kI 1)) (kI 24)) (i4 (k6 l4 (i5 1) (kI 1)) (i4 (k6 l4 (i5 1) (kI 2)) i7)))) i7))))))
def ba:LD->OD:=via 1 2 dX
theorem gD(s:WS):ba [s.d]=some (deed .ahour s).d:=by simp[-l4,ba,via,dX,bh,w2,JO,JP,JQ,La,deed]
def da:R->Me Out:=
  (l8 (n5 (k6 l4 (i5 0) (fun _=>some bh)) (setAt 1))
  (m7 (i8 aG (i4 (i5 0) (i4 (fun _=>some bh) (i4 (n8 (i4 (k6 l4 (i5 1) (kI 0)) (i4 (k6 rk (k6 p6 (k6 l4 (i5 1) (kI 1)) (kI 1)) (kI 60)) (i4 (k6 l4 (i5 1) (kI 2)) i7)))) i7))))))
def aT:LD->OD:=via 1 2 da
theorem fF(s:WS):aT [s.d]=some (deed .aminute s).d:=by simp[-l4,aT,via,da,bh,w2,JO,JP,JQ,La,deed]
def ee:R->Me Out:=
  (l8 (n5 (k6 l4 (i5 0) (fun _=>some bh)) (setAt 1))
  (m7 (i8 aG (i4 (i5 0) (i4 (fun _=>some bh) (i4 (n8 (i4 (k6 l4 (i5 1) (kI 0)) (i4 (k6 l4 (i5 1) (kI 1)) (i4 (A1 (k6 l4 (i5 1) (kI 2))) i7)))) i7))))))
def bj:LD->OD:=via 1 2 ee
theorem gZ(s:WS):bj [s.d]=some (deed .alarm s).d:=by simp[-l4,bj,via,ee,bh,w2,JO,JP,JQ,La,deed]
def ka:R->Me Out:=
  (l8 (vO (vC (k6 l4 (k6 l4 (i5 0) (fun _=>some aQ)) (kI 3)))
  (m7 (i5 0))
  rg)
  (m7 (i8 aG (i4 (i5 0) (i4 (fun _=>some aQ) (i4 (n8 (i4 (i5 1) (i4 (i5 2) (i4 (k6 p6 (k6 vc (kI 60) (i5 1)) (i5 2)) (i4 (fun _=>some (.bl false)) i7))))) i7))))))
def bH:LD->OD:=via 3 3 ka
theorem io(s:WS)(m c:Int):bH [s.d,.int m,.int c]=some (xa s m c).d:=by
 cases hr:s.cr<;>simp[-l4,-vc,bH,via,ka,aQ,w4,Kf,hr,xa,Gq,Ls]
def cZ:R->Me Out:=
  (l8 (n5 (k6 l4 (i5 0) (fun _=>some aQ)) (setAt 1))
  (m7 (i8 bH (i4 (i5 0) (i4 (k6 rk (k6 p6 (k6 l4 (i5 1) (kI 0)) (kI 1)) (kI 60)) (i4 (k6 l4 (i5 1) (kI 1)) i7))))))
def aU:LD->OD:=via 1 2 cZ
theorem fJ(s:WS):aU [s.d]=some (deed .cminute s).d:=by simp[-l4,aU,via,cZ,aQ,w4,Iy,Jv,io,deed]
def c_:R->Me Out:=
  (l8 (n5 (k6 l4 (i5 0) (fun _=>some aQ)) (setAt 1))
  (m7 (i8 bH (i4 (i5 0) (i4 (k6 l4 (i5 1) (kI 0)) (i4 (k6 rk (k6 p6 (k6 l4 (i5 1) (kI 1)) (kI 1)) (kI 60)) i7))))))
def aS:LD->OD:=via 1 2 c_
theorem fE(s:WS):aS [s.d]=some (deed .csecond s).d:=by simp[-l4,aS,via,c_,aQ,w4,Iy,Jv,io,deed]
def ii:R->Me Out:=
  (l8 (n5 (k6 l4 (i5 0) (fun _=>some aQ)) (setAt 1))
  (l8 (n5 (zm (A1 (k6 l4 (i5 1) (kI 3))) (AR (m6 CO (k6 l4 (i5 1) (kI 2)) (kI 0)))) (setAt 2))
  (m7 (i8 aG (i4 (i5 0) (i4 (fun _=>some aQ) (i4 (n8 (i4 (k6 l4 (i5 1) (kI 0)) (i4 (k6 l4 (i5 1) (kI 1)) (i4 (k6 l4 (i5 1) (kI 2)) (i4 (i5 2) i7))))) i7)))))))
def bz:LD->OD:=via 1 3 ii
theorem gU(s:WS):bz [s.d]=some (deed .count s).d:=by
 have q:∀r:Bool,zm (A1 (k6 l4 (i5 1) (kI 3))) (AR (m6 CO (k6 l4 (i5 1) (kI 2)) (kI 0))) [some s.d,some (.tup [.int s.cm,.int s.cs,.int s.cl,.bl r]),none]=some (.bl (!r&&decide (0<s.cl))):=by
  intro r
  cases r
  ·exact Id rfl (FN (rj (l5 rfl rfl rfl) rfl rfl))
  ·exact Ci rfl
 exact l9 ((l6 (o7 (l5 rfl rfl (w4 s)) rfl)).trans ((l6 (o7 (q s.cr) rfl)).trans (retS (k7 (n9 rfl (n9 rfl (n9 (tupS (n9 (l5 rfl rfl (Iy s)) (n9 (l5 rfl rfl (Jv s)) (n9 (l5 rfl rfl (KA s)) rfl)))) rfl))) (Ls s s.cm s.cs s.cl _)))))
def kD:R->Me Out:=
  (l8 (n5 (k6 l4 (i5 0) (fun _=>some aQ)) (setAt 1))
  (m7 (i8 bH (i4 (i5 0) (i4 (k6 l4 (i5 1) (kI 0)) (i4 (k6 l4 (i5 1) (kI 1)) i7))))))
def dw:LD->OD:=via 1 2 kD
theorem nS(s:WS):dw [s.d]=some (deed .full s).d:=by simp[-l4,dw,via,kD,aQ,w4,Iy,Jv,io,deed]
def je:R->Me Out:=
 (m7 (i8 aG (i4 (i5 0) (i4 (fun _=>some a_) (i4 (k6 rk (k6 p6 (k6 l4 (i5 0) (fun _=>some a_)) (kI 3600)) (kI 86400)) i7)))))
def cH:LD->OD:=via 1 1 je
theorem mV(s:WS):cH [s.d]=some (deed .hour s).d:=by simp[-l4,cH,via,je,a_,w1,Ky,deed]
def lG:R->Me Out:=
  (l8 (n5 (k6 l4 (i5 0) (fun _=>some cb)) (setAt 1))
  (l8 (vO (AO (vC (k6 l4 (i5 1) (kI 1))))
  (m7 (i8 aG (i4 (i5 0) (i4 (fun _=>some cb) (i4 (n8 (i4 (kI 0) (i4 (fun _=>some (.bl false)) (i4 (n8 i7) i7)))) i7)))))
  rg)
  (l8 (vO (m6 Lo (i8 wM (i4 (k6 l4 (i5 1) (kI 2)) i7)) (fun _=>some em))
  (m7 (i5 0))
  rg)
  (m7 (i8 aG (i4 (i5 0) (i4 (fun _=>some cb) (i4 (n8 (i4 (k6 l4 (i5 1) (kI 0)) (i4 (fun _=>some (.bl true)) (i4 (k6 p6 (k6 l4 (i5 1) (kI 2)) (n8 (i4 (k6 l4 (i5 1) (kI 0)) i7))) i7)))) i7))))))))
def cQ:LD->OD:=via 1 2 lG
theorem kR(s:WS)(h:s.lk.length<=4):cQ [s.d]=some (deed .lap s).d:=by
 have t:vC (k6 l4 (i5 1) (kI 1)) [some s.d,some s.lapsD]=some s.lr:=AD (l5 rfl rfl (Km s))
 have hl:wM [.tup (s.lk.map .int)]=some (.int s.lk.length):=by show some (D.int ((s.lk.map D.int).length:Int))=_;rw[Ms]
 have hlen:i8 wM (i4 (k6 l4 (i5 1) (kI 2)) i7) [some s.d,some s.lapsD]=some (.int s.lk.length):=k7 (n9 (l5 rfl rfl (JL s)) rfl) hl
 have a1:n5 (k6 l4 (i5 0) (fun _=>some cb)) (setAt 1) [some s.d,none]=some (.nx [some s.d,some s.lapsD]):=o7 (l5 rfl rfl (w3 s)) rfl
 cases hr:s.lr with
 | false =>
  have e:deed .lap s={s with lm:=0,lr:=false,lk:=[]}:=by
   show(if s.lr then _ else {s with lm:=0,lk:=[]})=_
   rw[Mx (by rw[hr];decide),<- hr]
  rw[hr] at t
  rw[e]
  exact l9 ((l6 a1).trans (sY ((wH (EI (b:=false) t)).trans (retS (k7 (n9 rfl (n9 rfl (n9 (tupS (n9 rfl (n9 rfl (n9 (tupS rfl) rfl)))) rfl))) (Kn s 0 false []))))))
 | true =>
  rw[hr] at t
  have n1:vO (AO (vC (k6 l4 (i5 1) (kI 1)))) (m7 (i8 aG (i4 (i5 0) (i4 (fun _=>some cb) (i4 (n8 (i4 (kI 0) (i4 (fun _=>some (.bl false)) (i4 (n8 i7) i7)))) i7))))) rg [some s.d,some s.lapsD]=some (.nx [some s.d,some s.lapsD]):=(vF (EI (b:=true) t)).trans rfl
  by_cases h4:4<=s.lk.length
  ·have e:deed .lap s=s:=by
    show(if s.lr then (if 4<=s.lk.length then s else _) else _)=_
    rw[Mo hr,Mo h4]
   rw[e]
   exact l9 ((l6 a1).trans ((l6 n1).trans (sY ((wH (rj hlen rfl (dT (Int.ofNat_le.mpr h4)))).trans (retS rfl)))))
  ·have e:deed .lap s={s with lm:=s.lm,lr:=true,lk:=s.lk++[s.lm]}:=by
    show(if s.lr then (if 4<=s.lk.length then s else {s with lk:=s.lk++[s.lm]}) else _)=_
    rw[Mo hr,Mx h4,<- hr]
   have ha:p6 (.tup (s.lk.map .int)) (.tup [.int s.lm])=some (.tup ((s.lk++[s.lm]).map .int)):=by
    rw[Nn]
    exact uW (by rw[Ms];show s.lk.length+1<=8;omega)
   rw[e]
   exact l9 ((l6 a1).trans ((l6 n1).trans ((l6 ((vF (rj hlen rfl (dF fun q=>h4 (Int.ofNat_le.mp q)))).trans rfl)).trans (retS (k7 (n9 rfl (n9 rfl (n9 (tupS (n9 (l5 rfl rfl (J0 s)) (n9 rfl (n9 (l5 (l5 rfl rfl (JL s)) (tupS (n9 (l5 rfl rfl (J0 s)) rfl)) ha) rfl)))) rfl))) (Kn s s.lm true (s.lk++[s.lm])))))))
def eT:R->Me Out:=
  (l8 (n5 (k6 l4 (i5 0) (fun _=>some cb)) (setAt 1))
  (m7 (i8 aG (i4 (i5 0) (i4 (fun _=>some cb) (i4 (n8 (i4 (k6 l4 (i5 1) (kI 0)) (i4 (A1 (k6 l4 (i5 1) (kI 1))) (i4 (k6 l4 (i5 1) (kI 2)) i7)))) i7))))))
def bw:LD->OD:=via 1 2 eT
theorem iP(s:WS):bw [s.d]=some (deed .run s).d:=by simp[-l4,bw,via,eT,cb,w3,J0,Km,JL,Kn,deed]
def gy:R->Me Out:=
  (l8 (n5 (k6 l4 (i5 0) (fun _=>some a_)) (setAt 1))
  (l8 (n5 (k6 rk (k6 p6 (k6 rk (i5 1) (kI 3600)) (kI 60)) (kI 3600)) (setAt 2))
  (m7 (i8 aG (i4 (i5 0) (i4 (fun _=>some a_) (i4 (k6 p6 (k6 um (i5 1) (k6 rk (i5 1) (kI 3600))) (i5 2)) i7)))))))
def bM:LD->OD:=via 1 3 gy
theorem kM(s:WS):bM [s.d]=some (deed .minute s).d:=by simp[-l4,bM,via,gy,a_,w1,Ky,deed]
def jc:R->Me Out:=
 (m7 (i5 0))
def cJ:LD->OD:=via 1 1 jc
theorem mw(s:WS):cJ [s.d]=some (deed .none s).d:=by simp[cJ,via,jc,deed]
def ja:R->Me Out:=
 (m7 (i8 aG (i4 (i5 0) (i4 (fun _=>some a_) (i4 (k6 um (k6 l4 (i5 0) (fun _=>some a_)) (k6 rk (k6 l4 (i5 0) (fun _=>some a_)) (kI 60))) i7)))))
def cG:LD->OD:=via 1 1 ja
theorem mz(s:WS):cG [s.d]=some (deed .zero s).d:=by simp[-l4,cG,via,ja,a_,w1,Ky,deed]
def vw:List (Str×(LD->OD)):=[(oS "none",cJ),(oS "hour",cH),(oS "minute",bM),(oS "zero",cG),(oS "ahour",ba),(oS "aminute",aT),(oS "alarm",bj),(oS "run",bw),(oS "lap",cQ),(oS "cminute",aU),(oS "csecond",aS),(oS "full",dw),(oS "count",bz)]
def jE:R->Me Out:=
  (l8 (n5 (k6 l4 (k6 l4 (k6 l4 (i5 0) (kI 2)) (k6 l4 (i5 1) (fun _=>some cc))) (kI 2)) (setAt 3))
  (l8 (n5 (k6 l4 (i5 3) (v9 (DO cF) (i5 2))) (setAt 4))
  (JN 5 vw (k6 l4 (i5 4) (kI 0)) (fun G_=>(m7 (i8 aG (i4 (i8 G_ (i4 (i5 1) i7)) (i4 (fun _=>some cc) (i4 (k6 l4 (i5 4) (kI 1)) i7)))))))))
def bq:LD->OD:=via 3 6 jE
theorem pC(d:vN)(s:WS)(h:s.lk.length<=4):∃F,vw.lookup d.x=some F/\F [s.d]=some (deed d s).d:=by
 cases d
 ·exact⟨_,rfl,mw s⟩
 ·exact⟨_,rfl,mV s⟩
 ·exact⟨_,rfl,kM s⟩
 ·exact⟨_,rfl,mz s⟩
 ·exact⟨_,rfl,gD s⟩
 ·exact⟨_,rfl,fF s⟩
 ·exact⟨_,rfl,gZ s⟩
 ·exact⟨_,rfl,iP s⟩
 ·exact⟨_,rfl,kR s h⟩
 ·exact⟨_,rfl,fJ s⟩
 ·exact⟨_,rfl,fE s⟩
 ·exact⟨_,rfl,nS s⟩
 ·exact⟨_,rfl,gU s⟩
theorem Jf(x:ub):DO cF (.str x.x)=some (.int (x.ix:Int)):=by cases x<;>rfl
theorem IS(x:ub):DO cF (.str x.X)=some (.int ((x.ix+3:Nat):Int)):=by cases x<;>rfl
theorem LV{i:Nat}{tab:List (Str×(LD->OD))}{f:R->OD}{g:(LD->OD)->R->Me Out}{ρ:R}{z:Str}{F:LD->OD}{o:Me Out}(h1:f ρ=some (.str z))(h2:tab.lookup z=some F)(hi:i<ρ.length)(h3:g F (ρ.set i none)=o):JN i tab f g ρ=o:=by
 unfold JN
 rw[h1]
 show(tab.lookup z).bind _=_
 rw[h2]
 show(if i<ρ.length then g F (ρ.set i none) else none)=_
 rw[Mo hi,h3]
theorem fz{b:Bk}{s:WS}(ok:b.Ok)(w:s.Wk b){p:Str}{i:Nat}(hi:i<6)(hp:DO cF (.str p)=some (.int (i:Int))):bq [b.d,s.d,.str p]=some (press b s i).d:=by
 have hm:=lW b w.mode
 have h6:=(ok.all _ (og b w.mode)).six
 have hr:=pW (b.modes.getD s.mode default) (i:=i) (by rw[h6];exact hi)
 obtain⟨F,hF,hs⟩:=pC (b.row s.mode i).1 s w.lk
 unfold Bk.row at hF hs
 unfold press Bk.row
 generalize (b.modes.getD s.mode default)=md at *
 generalize (md.rows.getD i (vN.none,0))=rw_ at *
 exact l9 ((l6 (o7 (l5 (l5 (l5 rfl rfl (b2 b)) (l5 rfl rfl (w0 s)) hm) rfl (m2 md)) rfl)).trans ((l6 (o7 (l5 rfl (Cg rfl hp) hr) rfl)).trans
  (LV (l5 rfl rfl (r0 rw_)) hF (by simp) (retS (k7 (n9 (k7 rfl hs) (n9 rfl (n9 (l5 rfl rfl (r1 rw_)) rfl))) (Li _ _))))))
def nz:R->Me Out:=
  (l8 (vO (AO (vC (i8 bo (i4 (i5 1) (i4 (i5 2) i7)))))
  (m7 (i5 1))
  rg)
  (l8 (vO (vC (i8 bB (i4 (i5 1) (i4 (i5 2) i7))))
  (n5 (i8 bq (i4 (i5 0) (i4 (i5 1) (i4 (i5 2) i7)))) (setAt 1))
  rg)
  (m7 (i8 aG (i4 (i8 aG (i4 (i5 1) (i4 (fun _=>some aR) (i4 (fun _=>some .non) i7)))) (i4 (fun _=>some cR) (i4 (kI 0) i7)))))))
def eJ:LD->OD:=via 3 3 nz
theorem oM{b:Bk}{s:WS}(ok:b.Ok)(w:s.Wk b)(x:ub):eJ [b.d,s.d,.str x.x]=some (letGo b s x).d:=by
 have e1:=fP s x
 have e2:=ia s x
 have e3:=fz ok w x.ix6 (Jf x)
 unfold letGo
 rcases hs:s.held with _ | ⟨y,k⟩<;>rw[hs] at e1 e2
 ·exact l9 (sY ((wH (EI (AD (k7 rfl e1)))).trans (retS rfl)))
 ·by_cases hy:y=x
  ·subst hy
   simp only[decide_true,Bool.true_and] at e1 e2
   dsimp only
   rw[Mo rfl]
   cases k with
   | none=>exact l9 ((l6 (vF (EI (AD (k7 rfl e1))))).trans ((l6 (vF (AD (k7 rfl e2)))).trans (retS (k7 (n9 (k7 rfl (II s)) rfl) (JS _ 0)))))
   | some j=>exact l9 ((l6 (vF (EI (AD (k7 rfl e1))))).trans ((l6 ((wH (AD (k7 rfl e2))).trans (o7 (k7 rfl e3) rfl))).trans (retS (k7 (n9 (k7 rfl (II _)) rfl) (JS _ 0)))))
  ·dsimp only at e1 ⊢
   rw[MZ hy] at e1
   rw[Mx hy]
   exact l9 (sY ((wH (EI (AD (k7 rfl e1)))).trans (retS rfl)))
def oH:R->Me Out:=
  (l8 (vO (m6 tP (k6 l4 (i5 0) (fun _=>some aR)) (fun _=>some .non))
  (m7 (i5 0))
  rg)
  (l8 (n5 (AW (m6 CO (k6 l4 (i5 0) (fun _=>some gm)) (kI 0)) (fun _=>some .non) (kI 0)) (setAt 2))
  (m7 (i8 aG (i4 (i8 aG (i4 (i8 aG (i4 (i5 0) (i4 (fun _=>some gm) (i4 (kI 0) i7)))) (i4 (fun _=>some aR) (i4 (n8 (i4 (i5 1) (i4 (i5 2) i7))) i7)))) (i4 (fun _=>some cR) (i4 (kI 0) i7)))))))
def eN:LD->OD:=via 2 3 oH
theorem oE(s:WS)(x:ub):eN [s.d,.str x.x]=some (pushed s x).d:=by
 have e6:=w6 s
 have e5:=w5 s
 unfold pushed
 cases hh:s.held with
 | some v =>
  rw[hh] at e6
  exact l9 (sY ((wH (rj (l5 rfl rfl e6) rfl rfl)).trans (retS rfl)))
 | none =>
  rw[hh] at e6
  by_cases hr:0<s.ring
  ·have z:=Io {s with ring:=0} x none
   simp only[Option.isSome_none,Bool.false_eq_true,if_false,Mo hr]
   exact l9 ((l6 (vF (rj (l5 rfl rfl e6) rfl rfl))).trans ((l6 (o7 (Cp (rj (l5 rfl rfl e5) rfl (dT hr)) rfl) rfl)).trans (retS (k7 (n9 (k7 (n9 (k7 rfl (Lq s 0)) rfl) z) rfl) (JS _ 0)))))
  ·have z:=Io {s with ring:=0} x (some 0)
   simp only[Option.isSome_none,Bool.false_eq_true,if_false,Mx hr]
   exact l9 ((l6 (vF (rj (l5 rfl rfl e6) rfl rfl))).trans ((l6 (o7 (Ec (rj (l5 rfl rfl e5) rfl (dF hr)) rfl) rfl)).trans (retS (k7 (n9 (k7 (n9 (k7 rfl (Lq s 0)) rfl) z) rfl) (JS _ 0)))))
def k_:R->Me Out:=
  (l8 (vO (AO (vC (k6 l4 (i5 0) (kI 3))))
  (m7 (i5 0))
  rg)
  (l8 (n5 (i8 AZ (i4 (kI 0) (i4 (k6 um (k6 l4 (i5 0) (kI 2)) (i5 1)) i7))) (setAt 2))
  (m7 (n8 (i4 (k6 l4 (i5 0) (kI 0)) (i4 (k6 l4 (i5 0) (kI 1)) (i4 (i5 2) (i4 (AR (m6 CO (i5 2) (kI 0))) i7))))))))
def cS:LD->OD:=via 2 3 k_
theorem kQ(s:WS)(n:Int):cS [s.countD,.int n]=some (.tup [.int s.cm,.int s.cs,.int (uC s n),.bl (runsOn s n)]):=by
 have e1:uC s n=if s.cr then mx 0 (s.cl - n) else s.cl:=rfl
 have e2:runsOn s n=(s.cr&&decide (0<mx 0 (s.cl - n))):=rfl
 rw[e1,e2]
 have t:vC (k6 l4 (i5 0) (kI 3)) [some s.countD,some (.int n),none]=some s.cr:=AD (l5 rfl rfl (Kf s))
 cases hr:s.cr with
 | false =>
  rw[hr] at t
  have q:s.countD=.tup [.int s.cm,.int s.cs,.int s.cl,.bl false]:=by rw[<- hr];rfl
  exact(l9 (sY ((wH (EI (b:=false) t)).trans (retS rfl)))).trans (congrArg some q)
 | true =>
  rw[hr] at t
  exact l9 ((l6 ((vF (EI (b:=true) t)).trans rfl)).trans ((l6 (o7 (k7 (n9 rfl (n9 (l5 (l5 rfl rfl (KA s)) rfl rfl) rfl)) (IJ _ _)) rfl)).trans (retS (tupS (n9 (l5 rfl rfl (Iy s)) (n9 (l5 rfl rfl (Jv s)) (n9 rfl (n9 (FN (rj rfl rfl rfl)) rfl))))))))
def m_:R->Me Out:=
  (l8 (vO (AA (m6 wu (i5 0) (fun _=>some .non)) (m6 wu (k6 l4 (i5 0) (kI 1)) (fun _=>some .non)))
  (m7 (i5 0))
  rg)
  (m7 (n8 (i4 (k6 l4 (i5 0) (kI 0)) (i4 (k6 p6 (k6 l4 (i5 0) (kI 1)) (i5 1)) i7)))))
def dq:LD->OD:=via 2 2 m_
theorem mI(h:Me (ub×Me Int))(n:Int):dq [uY h,.int n]=some (uY (zH h n)):=by
 rcases h with _ | ⟨x,_ | k⟩
 ·exact l9 (sY ((wH (K8 (rj rfl rfl rfl))).trans (retS rfl)))
 ·exact l9 (sY ((wH (H8 (rj rfl rfl rfl) (rj (l5 rfl rfl rfl) rfl rfl))).trans (retS rfl)))
 ·exact l9 ((l6 ((vF (H8 (rj rfl rfl rfl) (rj (l5 rfl rfl rfl) rfl rfl))).trans rfl)).trans (retS (tupS (n9 (l5 rfl rfl rfl) (n9 (l5 (l5 rfl rfl rfl) rfl rfl) rfl)))))
def gE:R->Me Out:=
 (m7 (i8 AZ (i4 (kI 1) (i4 (k6 um (k6 l4 (i5 0) (kI 1)) (k6 l4 (i5 1) (fun _=>some cR))) i7))))
def aW:LD->OD:=via 2 2 gE
theorem dR(b:Bk)(s:WS):aW [b.d,s.d]=some (.int (uG b s)):=l9 (retS (k7 (n9 rfl (n9 (l5 (l5 rfl rfl (b1 b)) (l5 rfl rfl (w7 s)) rfl) rfl)) (IJ _ _)))
def mE:R->Me Out:=
  (l8 (vO (AA (m6 tP (k6 l4 (i5 1) (fun _=>some aR)) (fun _=>some .non)) (m6 uV (k6 l4 (i5 0) (kI 1)) (kI 0)))
  (m7 (k6 l4 (i5 1) (fun _=>some cR)))
  rg)
  (l8 (n5 (i8 aW (i4 (i5 0) (i4 (i5 1) i7))) (setAt 3))
  (m7 (AW (m6 HL (i5 2) (i5 3)) (k6 p6 (k6 l4 (i5 1) (fun _=>some cR)) (i5 2)) (k6 rk (k6 um (i5 2) (i5 3)) (k6 l4 (i5 0) (kI 1)))))))
def dt:LD->OD:=via 3 4 mE
theorem mB{b:Bk}{s:WS}(n:Int)(hb:0<=b.back):dt [b.d,s.d,.int n]=some (.int (u_ b s n)):=by
 have e:=dR b s
 have e6:=w6 s
 have e7:=w7 s
 unfold u_
 cases hh:s.held with
 | some v =>
  rw[hh] at e6
  rw[Mo (.inl rfl)]
  exact l9 (sY ((wH (K8 (rj (l5 rfl rfl e6) rfl rfl))).trans (retS (l5 rfl rfl e7))))
 | none =>
  rw[hh] at e6
  by_cases h0:b.back=0
  ·rw[Mo (.inr h0)]
   exact l9 (sY ((wH (H8 (rj (l5 rfl rfl e6) rfl rfl) (rj (l5 rfl rfl (b1 b)) rfl (LR h0)))).trans (retS (l5 rfl rfl e7))))
  ·have hp:0<b.back:=by omega
   have q1:vO (AA (m6 tP (k6 l4 (i5 1) (fun _=>some aR)) (fun _=>some .non)) (m6 uV (k6 l4 (i5 0) (kI 1)) (kI 0))) (m7 (k6 l4 (i5 1) (fun _=>some cR))) rg [some b.d,some s.d,some (.int n),none]=some (.nx [some b.d,some s.d,some (.int n),none]):=
    vF (H8 (rj (l5 rfl rfl e6) rfl rfl) (rj (l5 rfl rfl (b1 b)) rfl (Ma h0)))
   rw[Mx (by rintro(z | z);cases z;exact h0 z)]
   by_cases h1:n<uG b s
   ·rw[Mo h1]
    exact l9 ((l6 q1).trans ((l6 (o7 (k7 rfl e) rfl)).trans (retS (Cp (rj (x:=.int n) (y:=.int (uG b s)) rfl rfl (dT h1)) (l5 (l5 rfl rfl e7) rfl rfl)))))
   ·rw[Mx h1]
    exact l9 ((l6 q1).trans ((l6 (o7 (k7 rfl e) rfl)).trans (retS (Ec (rj (x:=.int n) (y:=.int (uG b s)) rfl rfl (dF h1)) (l5 rfl (l5 rfl rfl (b1 b)) (modS hp))))))
def mO:R->Me Out:=
 (m7 (AW (vC (k6 l4 (i5 0) (kI 1))) (n8 (i4 (k6 p6 (k6 l4 (i5 0) (kI 0)) (i5 1)) (i4 (fun _=>some (.bl true)) (i4 (k6 l4 (i5 0) (kI 2)) i7)))) (i5 0)))
def du:LD->OD:=via 2 2 mO
theorem mQ(s:WS)(n:Int):du [s.lapsD,.int n]=some (.tup [.int (x_ s n),.bl s.lr,.tup (s.lk.map .int)]):=by
 have e:x_ s n=if s.lr then s.lm+n else s.lm:=rfl
 rw[e]
 have t:vC (k6 l4 (i5 0) (kI 1)) [some s.lapsD,some (.int n)]=some s.lr:=AD (l5 rfl rfl (Km s))
 cases hr:s.lr with
 | false =>
  rw[hr] at t
  have q:s.lapsD=.tup [.int s.lm,.bl false,.tup (s.lk.map .int)]:=by rw[<- hr];rfl
  exact(l9 (retS (Ec t rfl))).trans (congrArg some q)
 | true =>
  rw[hr] at t
  exact l9 (retS (Cp t (tupS (n9 (l5 (l5 rfl rfl (J0 s)) rfl rfl) (n9 rfl (n9 (l5 rfl rfl (JL s)) rfl))))))
def jD:R->Me Out:=
  (l8 (n5 (k6 l4 (i5 0) (fun _=>some bh)) (setAt 1))
  (l8 (vO (AO (vC (k6 l4 (i5 1) (kI 2))))
  (m7 (fun _=>some .non))
  rg)
  (l8 (n5 (k6 p6 (k6 vc (kI 3600) (k6 l4 (i5 1) (kI 0))) (k6 vc (kI 60) (k6 l4 (i5 1) (kI 1)))) (setAt 2))
  (m7 (k6 p6 (k6 rk (k6 um (k6 um (i5 2) (k6 l4 (i5 0) (fun _=>some a_))) (kI 1)) (fun _=>some cY)) (kI 1))))))
def aK:LD->OD:=via 1 3 jD
theorem dA(s:WS):aK [s.d]=some (qQ (m9 s)):=by
 have e2:=JQ s
 unfold m9
 cases ha:s.aon<;>rw[ha] at e2
 ·exact l9 ((l6 (o7 (l5 rfl rfl (w2 s)) rfl)).trans (sY ((wH (EI (b:=false) (AD (l5 rfl rfl e2)))).trans (retS rfl))))
 ·exact l9 ((l6 (o7 (l5 rfl rfl (w2 s)) rfl)).trans ((l6 (vF (EI (b:=true) (AD (l5 rfl rfl e2))))).trans ((l6 (o7 (l5 (l5 rfl (l5 rfl rfl (JO s)) (FP _)) (l5 rfl (l5 rfl rfl (JP s)) (Gq _)) rfl) rfl)).trans (retS (l5 (l5 (l5 (l5 rfl (l5 rfl rfl (w1 s)) rfl) rfl rfl) rfl (modS (by decide))) rfl rfl)))))
def jP:R->Me Out:=
  (l8 (n5 (k6 l4 (i5 0) (fun _=>some aQ)) (setAt 1))
  (m7 (AW (vC (k6 l4 (i5 1) (kI 3))) (k6 l4 (i5 1) (kI 2)) (fun _=>some .non))))
def aL:LD->OD:=via 1 2 jP
theorem dQ(s:WS):aL [s.d]=some (qQ (qM s)):=by
 have e3:=Kf s
 unfold qM
 cases ha:s.cr<;>rw[ha] at e3
 ·exact l9 ((l6 (o7 (l5 rfl rfl (w4 s)) rfl)).trans (retS (Ec (AD (l5 rfl rfl e3)) rfl)))
 ·exact l9 ((l6 (o7 (l5 rfl rfl (w4 s)) rfl)).trans (retS (Cp (AD (l5 rfl rfl e3)) (l5 rfl rfl (KA s)))))
def j8:R->Me Out:=
  (l8 (n5 (i8 aK (i4 (i5 0) i7)) (setAt 2))
  (l8 (n5 (i8 aL (i4 (i5 0) i7)) (setAt 3))
  (DF 4 i7
  (vM (EG (yr (m6 tP (i5 2) (fun _=>some .non)) (m6 G4 (i5 2) (i5 1)))
  (zY 4 (k6 um (i5 1) (k6 rk (k6 um (i5 1) (i5 2)) (fun _=>some cY))))
  xb)
  (vM (EG (yr (m6 tP (i5 3) (fun _=>some .non)) (m6 G4 (i5 3) (i5 1)))
  (zY 4 (i5 3))
  xb)
  (ye (m7 (i8 Ar (i4 (i5 4) i7)))))))))
def cx:LD->OD:=via 2 5 j8
def BP(n:Int)(o:Me Int):LD:=match o with
 | some a=>if a<=n then [.int (n - (n - a)%86400)] else []
 | none=>[]
def Ge(n:Int)(o:Me Int):LD:=match o with
 | some c=>if c<=n then [.int c] else []
 | none=>[]
theorem Hb(s:WS)(n:Int):Ar [.lst (BP n (m9 s)++Ge n (qM s))]=some (qQ (ux s n)):=by
 unfold ux
 cases m9 s<;>cases qM s
 ·rfl
 ·rename_i c;by_cases h:c<=n<;>simp[BP,Ge,h,qQ]
 ·rename_i a;by_cases h:a<=n<;>simp[BP,Ge,h,qQ]
 ·rename_i a c;by_cases h:a<=n<;>by_cases h':c<=n<;>simp[BP,Ge,h,h',qQ,mx]
theorem Jz{p:R->LD->Me (Out×LD)}{q:R->LD->Me Out}{ρ ρ2:R}{ds ds2:LD}(h:p ρ ds=some (.nx ρ2,ds2)):vM p q ρ ds=q ρ2 ds2:=by simp[h]
theorem Fk{c:R->Me Bool}{p q:R->LD->Me (Out×LD)}{ρ:R}{ds:LD}(h:c ρ=some true):EG c p q ρ ds=p ρ ds:=by simp[h]
theorem D4{c:R->Me Bool}{p q:R->LD->Me (Out×LD)}{ρ:R}{ds:LD}(h:c ρ=some false):EG c p q ρ ds=q ρ ds:=by simp[h]
theorem ko(s:WS)(n:Int):cx [s.d,.int n]=some (qQ (ux s n)):=by
 have e1:=dA s
 have e2:=dQ s
 rw[<- Hb]
 generalize m9 s=a at *
 generalize qM s=c at *
 have z0:0<sizeLine:=by decide
 have z1:1<sizeLine:=by decide
 have q1:n5 (i8 aK (i4 (i5 0) i7)) (setAt 2) [some s.d,some (.int n),none,none,none]=some (.nx [some s.d,some (.int n),some (qQ a),none,none]):=by
  show(aK [s.d]).bind _=_
  rw[e1];rfl
 have q2:n5 (i8 aL (i4 (i5 0) i7)) (setAt 3) [some s.d,some (.int n),some (qQ a),none,none]=some (.nx [some s.d,some (.int n),some (qQ a),some (qQ c),none]):=by
  show(aL [s.d]).bind _=_
  rw[e2];rfl
 have q3:EG (yr (m6 tP (i5 2) (fun _=>some .non)) (m6 G4 (i5 2) (i5 1))) (zY 4 (k6 um (i5 1) (k6 rk (k6 um (i5 1) (i5 2)) (fun _=>some cY)))) xb [some s.d,some (.int n),some (qQ a),some (qQ c)] []=some (.nx [some s.d,some (.int n),some (qQ a),some (qQ c)],BP n a):=by
  cases a with
  | none=>rfl
  | some a =>
   show _=some (Out.nx _,if a<=n then _ else _)
   by_cases h:a<=n
   ·rw[Fk (dT h),Mo h]
    show(if 4=4/\0<sizeLine then _ else none)=_
    rw[Mo ⟨rfl,z0⟩];rfl
   ·rw[D4 (dF h),Mx h];rfl
 have hl:(BP n a).length<=1:=by
  unfold BP
  split
  ·split<;>simp
  ·simp
 have hl2:(BP n a).length<sizeLine:=ND hl z1
 have q4:EG (yr (m6 tP (i5 3) (fun _=>some .non)) (m6 G4 (i5 3) (i5 1))) (zY 4 (i5 3)) xb [some s.d,some (.int n),some (qQ a),some (qQ c)] (BP n a)=some (.nx [some s.d,some (.int n),some (qQ a),some (qQ c)],BP n a++Ge n c):=by
  cases c with
  | none=>show some _=_;rw[show Ge n none=[] from rfl,M5]
  | some c =>
   show _=some (Out.nx _,BP n a++if c<=n then _ else _)
   by_cases h:c<=n
   ·rw[Fk (dT h),Mo h]
    show(if 4=4/\(BP n a).length<sizeLine then _ else none)=_
    rw[Mo ⟨rfl,hl2⟩];rfl
   ·rw[D4 (dF h),Mx h,M5];rfl
 show w9 (l8 (n5 (i8 aK (i4 (i5 0) i7)) (setAt 2)) _ [some s.d,some (.int n),none,none,none])=_
 rw[l6 q1,l6 q2]
 show w9 (vM (EG (yr (m6 tP (i5 2) (fun _=>some .non)) (m6 G4 (i5 2) (i5 1))) (zY 4 (k6 um (i5 1) (k6 rk (k6 um (i5 1) (i5 2)) (fun _=>some cY)))) xb) _ [some s.d,some (.int n),some (qQ a),some (qQ c)] [])=_
 rw[Jz q3,Jz q4]
 show w9 ((Ar [.lst (BP n a++Ge n c)]).map .rt)=_
 cases Ar [.lst (BP n a++Ge n c)]<;>rfl
def nc:R->Me Out:=
  (l8 (n5 (i8 cx (i4 (i5 0) (i4 (i5 1) i7))) (setAt 2))
  (l8 (vO (m6 wu (i5 2) (fun _=>some .non))
  (m7 (i8 AZ (i4 (kI 0) (i4 (k6 um (k6 l4 (i5 0) (fun _=>some gm)) (i5 1)) i7))))
  rg)
  (m7 (i8 AZ (i4 (kI 0) (i4 (k6 um (fun _=>some eO) (k6 um (i5 1) (i5 2))) i7))))))
def dr:LD->OD:=via 2 3 nc
theorem mG(s:WS)(n:Int):dr [s.d,.int n]=some (.int (xT s n)):=by
 have e:=ko s n
 unfold xT
 cases h:ux s n with
 | none =>
  rw[h] at e
  exact l9 ((l6 (o7 (k7 rfl e) rfl)).trans (sY ((wH (rj rfl rfl rfl)).trans (retS (k7 (n9 rfl (n9 (l5 (l5 rfl rfl (w5 s)) rfl rfl) rfl)) (IJ _ _))))))
 | some l =>
  rw[h] at e
  exact l9 ((l6 (o7 (k7 rfl e) rfl)).trans ((l6 ((vF (rj rfl rfl rfl)).trans rfl)).trans (retS (k7 (n9 rfl (n9 (l5 rfl (l5 rfl rfl rfl) rfl) rfl)) (IJ _ _)))))
def mZ:R->Me Out:=
 (m7 (n8 (i4 (k6 l4 (i5 1) (fun _=>some cc)) (i4 (k6 rk (k6 p6 (k6 l4 (i5 1) (fun _=>some a_)) (i5 2)) (fun _=>some cY)) (i4 (k6 l4 (i5 1) (fun _=>some bh)) (i4 (i8 du (i4 (k6 l4 (i5 1) (fun _=>some cb)) (i4 (i5 2) i7))) (i4 (i8 cS (i4 (k6 l4 (i5 1) (fun _=>some aQ)) (i4 (i5 2) i7))) (i4 (i8 dr (i4 (i5 1) (i4 (i5 2) i7))) (i4 (i8 dq (i4 (k6 l4 (i5 1) (fun _=>some aR)) (i4 (i5 2) i7))) (i4 (i8 dt (i4 (i5 0) (i4 (i5 1) (i4 (i5 2) i7)))) i7))))))))))
def ci:LD->OD:=via 3 3 mZ
theorem fW{b:Bk}{s:WS}(n:Int)(hb:0<=b.back):ci [b.d,s.d,.int n]=some (counted b s n).d:=
 l9 (retS (tupS (n9 (l5 rfl rfl (w0 s)) (n9 (l5 (l5 (l5 rfl rfl (w1 s)) rfl rfl) rfl rfl) (n9 (l5 rfl rfl (w2 s)) (n9 (k7 (n9 (l5 rfl rfl (w3 s)) rfl) (mQ s n)) (n9 (k7 (n9 (l5 rfl rfl (w4 s)) rfl) (kQ s n)) (n9 (k7 rfl (mG s n)) (n9 (k7 (n9 (l5 rfl rfl (w6 s)) rfl) (mI s.held n)) (n9 (k7 rfl (mB n hb)) rfl))))))))))
def kB:R->Me Out:=
 (m7 (zm (AR (m6 CO (k6 l4 (i5 0) (kI 1)) (kI 0))) (zm (AR (m6 Ia (k6 l4 (i5 1) (fun _=>some cc)) (kI 0))) (A1 (k6 l4 (k6 l4 (k6 l4 (i5 0) (kI 2)) (k6 l4 (i5 1) (fun _=>some cc))) (kI 1))))))
def cz:LD->OD:=via 2 2 kB
theorem j_{b:Bk}{s:WS}(w:s.Wk b):cz [b.d,s.d]=some (.bl (u6 b s)):=by
 have hm:=lW b w.mode
 unfold u6
 have c1:AR (m6 CO (k6 l4 (i5 0) (kI 1)) (kI 0)) [some b.d,some s.d]=some (.bl (decide (0<b.back))):=FN (rj (l5 rfl rfl (b1 b)) rfl rfl)
 have e2:Ia (.int (s.mode:Int)) (.int 0)=some (!decide (s.mode=0)):=by
  show some (!((s.mode:Int)==0))=_
  cases s.mode<;>rfl
 have c2:AR (m6 Ia (k6 l4 (i5 1) (fun _=>some cc)) (kI 0)) [some b.d,some s.d]=some (.bl (!decide (s.mode=0))):=FN (rj (l5 rfl rfl (w0 s)) rfl e2)
 generalize b.modes.getD s.mode default=md at *
 have c3:A1 (k6 l4 (k6 l4 (k6 l4 (i5 0) (kI 2)) (k6 l4 (i5 1) (fun _=>some cc))) (kI 1)) [some b.d,some s.d]=some (.bl !md.stays):=by
  show(k6 l4 _ _ _).bind _=_
  rw[l5 (l5 (l5 rfl rfl (b2 b)) (l5 rfl rfl (w0 s)) hm) rfl (m1 md)];rfl
 generalize decide (0<b.back)=p at *
 generalize (!decide (s.mode=0))=q at *
 cases p
 ·exact l9 (retS (Ci c1))
 ·cases q
  ·exact l9 (retS (Id c1 (Ci c2)))
  ·exact l9 (retS (Id c1 (Id c2 c3)))
def gI:R->Me Out:=
 (m7 (i8 AZ (i4 (kI 1) (i4 (k6 um (k6 l4 (i5 0) (kI 0)) (k6 l4 (k6 l4 (i5 1) (fun _=>some aR)) (kI 1))) i7))))
def bu:LD->OD:=via 2 2 gI
theorem gH{b:Bk}{s:WS}{x:ub}{k:Int}(h:s.held=some (x,some k)):bu [b.d,s.d]=some (.int (mx 1 (b.hold - k))):=by
 have e6:=w6 s
 rw[h] at e6
 exact l9 (retS (k7 (n9 rfl (n9 (l5 (l5 rfl rfl (b0 b)) (l5 (l5 rfl rfl e6) rfl (h1 x (some k))) rfl) rfl)) (IJ _ _)))
def kx:R->Me Out:=
  (l8 (n5 (k6 l4 (i5 1) (fun _=>some aR)) (setAt 2))
  (l8 (vO (m6 wu (i5 2) (fun _=>some .non))
  (m7 (AW (vC (i8 cz (i4 (i5 0) (i4 (i5 1) i7)))) (i8 aW (i4 (i5 0) (i4 (i5 1) i7))) (fun _=>some .non)))
  rg)
  (m7 (AW (m6 wu (k6 l4 (i5 2) (kI 1)) (fun _=>some .non)) (fun _=>some .non) (i8 bu (i4 (i5 0) (i4 (i5 1) i7)))))))
def bx:LD->OD:=via 2 3 kx
theorem gx{b:Bk}{s:WS}(w:s.Wk b):bx [b.d,s.d]=some (qQ (qK b s)):=by
 have e1:=j_ w
 have e2:=dR b s
 have e6:=w6 s
 unfold qK
 rcases hs:s.held with _ | ⟨x,_ | k⟩<;>rw[hs] at e6
 ·cases hg:u6 b s<;>rw[hg] at e1
  ·exact l9 ((l6 (o7 (l5 rfl rfl e6) rfl)).trans (sY ((wH rfl).trans (retS (Ec (AD (k7 rfl e1)) rfl)))))
  ·exact l9 ((l6 (o7 (l5 rfl rfl e6) rfl)).trans (sY ((wH rfl).trans (retS (Cp (AD (k7 rfl e1)) (k7 rfl e2))))))
 ·exact l9 ((l6 (o7 (l5 rfl rfl e6) rfl)).trans ((l6 (vF rfl)).trans (retS (Cp rfl rfl))))
 ·have e3:=gH (b:=b) hs
  exact l9 ((l6 (o7 (l5 rfl rfl e6) rfl)).trans ((l6 (vF rfl)).trans (retS (Ec rfl (k7 rfl e3)))))
def oF:R->Me Out:=
  (l8 (n5 (k6 l4 (i5 1) (fun _=>some aR)) (setAt 2))
  (l8 (vO (m6 wu (i5 2) (fun _=>some .non))
  (m7 (i8 aG (i4 (i5 1) (i4 (fun _=>some cc) (i4 (kI 0) i7)))))
  rg)
  (m7 (i8 bq (i4 (i5 0) (i4 (i8 aG (i4 (i5 1) (i4 (fun _=>some aR) (i4 (n8 (i4 (k6 l4 (i5 2) (kI 0)) (i4 (fun _=>some .non) i7))) i7)))) (i4 (v9 JU (k6 l4 (i5 2) (kI 0))) i7)))))))
def dZ:LD->OD:=via 2 3 oF
theorem I9(x:ub):JU (.str x.x)=some (.str x.X):=by cases x<;>rfl
theorem Ax{b:Bk}{s:WS}(h:s.held=none):turned b s={s with mode:=0}:=by
 unfold turned
 split
 ·rfl
 ·rename_i e;rw[h] at e;cases e
theorem Ae{b:Bk}{s:WS}{x:ub}{k:Me Int}(h:s.held=some (x,k)):turned b s=press b {s with held:=some (x,none)} (x.ix+3):=by
 unfold turned
 split
 ·rename_i e;rw[h] at e;cases e
 ·rename_i e;rw[h] at e;cases e;rfl
theorem om{b:Bk}{s:WS}(ok:b.Ok)(w:s.Wk b):dZ [b.d,s.d]=some (turned b s).d:=by
 have e6:=w6 s
 rcases hs:s.held with _ | ⟨x,k⟩<;>rw[hs] at e6
 ·rw[Ax hs]
  exact l9 ((l6 (o7 (l5 rfl rfl e6) rfl)).trans (sY ((wH rfl).trans (retS (k7 rfl (Li s 0))))))
 ·have e:=fz (s:={s with held:=some (x,none)}) ok {w with} x.ix3 (IS x)
  rw[Ae hs]
  exact l9 ((l6 (o7 (l5 rfl rfl e6) rfl)).trans ((l6 (vF rfl)).trans (retS (k7 (n9 rfl (n9 (k7 (n9 rfl (n9 rfl (n9 (tupS (n9 (l5 rfl rfl (h0 x k)) rfl)) rfl))) (KR s x)) (n9 (Cg (l5 rfl rfl (h0 x k)) (I9 x)) rfl))) e))))
def eR:R->Me Out:=
 (m7 (i8 dZ (i4 (i5 0) (i4 (i8 ci (i4 (i5 0) (i4 (i5 1) (i4 (i8 bx (i4 (i5 0) (i4 (i5 1) i7))) i7)))) i7))))
def bv:LD->OD:=via 2 2 eR
theorem oC{b:Bk}{s:WS}{t:Int}(ok:b.Ok)(w:s.Wk b)(h:qK b s=some t):bv [b.d,s.d]=some (behind b s t).d:=by
 have e1:=gx w
 rw[h] at e1
 have ht:=vi h
 have e2:=fW (s:=s) t ok.back0
 have e3:=om ok (w.cnt (n:=t) (by omega))
 simp only[qQ] at e1
 simp[bv,via,eR,e1,e2,e3,behind]
def kL:R->Me Out:=
  (l8 (n5 (i8 bx (i4 (i5 0) (i4 (i5 1) i7))) (setAt 3))
  (l8 (vO (AA (m6 wu (i5 3) (fun _=>some .non)) (m6 CO (i5 3) (i5 2)))
  (m7 (CG (i4 (n8 (i4 (kI 0) (i4 (i5 1) (i4 (i5 2) i7)))) i7)))
  rg)
  (m7 (CG (i4 (n8 (i4 (kI 0) (i4 (i5 1) (i4 (i5 3) i7)))) (i4 (n8 (i4 (i5 3) (i4 (i8 bv (i4 (i5 0) (i4 (i5 1) i7))) (i4 (k6 um (i5 2) (i5 3)) i7)))) i7))))))
def aI:LD->OD:=via 3 4 kL
def rB(b:Bk)(s:WS)(n:Int):LD:=match qK b s with
 | none=>[.tup [.int 0,s.d,.int n]]
 | some t=>if n<t then [.tup [.int 0,s.d,.int n]] else [.tup [.int 0,s.d,.int t],.tup [.int t,(behind b s t).d,.int (n - t)]]
theorem eE{b:Bk}{s:WS}(n:Int)(ok:b.Ok)(w:s.Wk b):aI [b.d,s.d,.int n]=some (.lst (rB b s n)):=by
 have e1:=gx w
 unfold rB
 cases h:qK b s with
 | none =>
  rw[h] at e1
  exact l9 ((l6 (o7 (k7 rfl e1) rfl)).trans (sY ((wH (K8 rfl)).trans (retS rfl))))
 | some t =>
  have e2:=oC ok w h
  rw[h] at e1
  dsimp only
  by_cases hn:n<t
  ·rw[Mo hn]
   exact l9 ((l6 (o7 (k7 rfl e1) rfl)).trans (sY ((wH (H8 rfl (rj rfl rfl (dT hn)))).trans (retS rfl))))
  ·rw[Mx hn]
   exact l9 ((l6 (o7 (k7 rfl e1) rfl)).trans ((l6 (vF (H8 rfl (rj rfl rfl (dF hn))))).trans (retS (JD (n9 rfl (n9 (tupS (n9 rfl (n9 (k7 rfl e2) rfl))) rfl))))))
def oK:R->Me Out:=
  (l8 (n5 (k6 l4 (i8 aI (i4 (i5 0) (i4 (i5 1) (i4 (i5 2) i7)))) (v9 Im (kI 1))) (setAt 3))
  (m7 (i8 ci (i4 (i5 0) (i4 (k6 l4 (i5 3) (kI 1)) (i4 (k6 l4 (i5 3) (kI 2)) i7))))))
def el:LD->OD:=via 3 4 oK
theorem nC{b:Bk}{s:WS}(n:Int)(ok:b.Ok)(w:s.Wk b):el [b.d,s.d,.int n]=some (ticked b s n).d:=by
 have e1:=eE n ok w
 unfold rB at e1
 unfold ticked
 have e2:=fW (s:=s) n ok.back0
 cases h:qK b s with
 | none =>
  rw[h] at e1
  exact l9 ((l6 (o7 (l5 (k7 rfl e1) rfl rfl) rfl)).trans (retS (k7 rfl e2)))
 | some t =>
  rw[h] at e1
  dsimp only at e1 ⊢
  have e3:=fW (s:=behind b s t) (n - t) ok.back0
  by_cases hn:n<t
  ·rw[Mo hn] at e1 ⊢
   exact l9 ((l6 (o7 (l5 (k7 rfl e1) rfl rfl) rfl)).trans (retS (k7 rfl e2)))
  ·rw[Mx hn] at e1 ⊢
   exact l9 ((l6 (o7 (l5 (k7 rfl e1) rfl rfl) rfl)).trans (retS (k7 rfl e3)))
def pY:R->Me Out:=
  (l8 (vO (m6 uV (k6 l4 (i5 2) (kI 0)) (kS "down"))
  (m7 (i8 eN (i4 (i5 1) (i4 (k6 l4 (i5 2) (kI 1)) i7))))
  rg)
  (l8 (vO (m6 uV (k6 l4 (i5 2) (kI 0)) (kS "up"))
  (m7 (i8 eJ (i4 (i5 0) (i4 (i5 1) (i4 (k6 l4 (i5 2) (kI 1)) i7)))))
  rg)
  (m7 (i8 el (i4 (i5 0) (i4 (i5 1) (i4 (k6 l4 (i5 2) (kI 1)) i7)))))))
def cN:LD->OD:=via 3 3 pY
theorem Hg:uV (.str (oS "down")) (.str (oS "down"))=some true:=rfl
theorem G1:uV (.str (oS "up")) (.str (oS "down"))=some false:=rfl
theorem HK:uV (.str (oS "ticks")) (.str (oS "down"))=some false:=rfl
theorem AY:uV (.str (oS "up")) (.str (oS "up"))=some true:=rfl
theorem Hl:uV (.str (oS "ticks")) (.str (oS "up"))=some false:=rfl
theorem lC{b:Bk}{s:WS}(ok:b.Ok)(w:s.Wk b)(e:Ev):cN [b.d,s.d,e.d]=some (gone b s e).d:=by
 cases e with
 | down x=>exact l9 (sY ((wH (rj rfl rfl Hg)).trans (retS (k7 rfl (oE s x)))))
 | up x=>exact l9 ((l6 (vF (rj rfl rfl G1))).trans (sY ((wH (rj rfl rfl AY)).trans (retS (k7 rfl (oM ok w x))))))
 | ticks n=>exact l9 ((l6 (vF (rj rfl rfl HK))).trans ((l6 (vF (rj rfl rfl Hl))).trans (retS (k7 rfl (nC n ok w)))))
def gw:R->Me Out:=
 (n5 (i8 cN (i4 (i5 0) (i4 (i5 1) (i4 (i5 3) i7)))) (setAt 1))
def gp:R->Me Out:=gw
def gr:R->Me Out:=
 (xH (sk (i5 2)) (setAt 3) gp)
def jf:R->Me Out:=
 (m7 (i5 1))
def oP:R->Me Out:=
 (l8 gr jf)
def fN:LD->OD:=via 3 4 oP
theorem x9{b:Bk}(ok:b.Ok)(rw_:OD):∀(es:List Ev) (s:WS) (o:OD),s.Ok b->(∀e∈es,e.Ok) ->
  ∃o',xi (setAt 3) gp (es.map Ev.d) [some b.d,some s.d,rw_,o]=some (.nx [some b.d,some (rX b s es).d,rw_,o'])
 | [],s,o,_,_=>⟨o,rfl⟩
 | e::es,s,o,w,h=>by
  obtain⟨o',ih⟩:=x9 ok rw_ es (gone b s e) (some e.d) (zr ok w e (h e M4)) fun x hx=>h x (MV _ hx)
  refine⟨o',?_⟩
  rw[M9,xn (ρ1:=[some b.d,some s.d,rw_,some e.d]) rfl (ρ2:=[some b.d,some (gone b s e).d,rw_,some e.d]) (by simp[gp,gw,lC ok w.toWk e]),ih]
  rfl
theorem oO{b:Bk}{s:WS}(ok:b.Ok)(w:s.Ok b)(es:List Ev)(h:∀e∈es,e.Ok):fN [b.d,s.d,.tup (es.map Ev.d)]=some (rX b s es).d:=by
 obtain⟨o',e⟩:=x9 ok (some (.tup (es.map Ev.d))) es s none w h
 have e1:gr [some b.d,some s.d,some (.tup (es.map Ev.d)),none]=_:=xm rfl e
 show(if (3:Nat)=3 then w9 (l8 gr jf [some b.d,some s.d,some (.tup (es.map Ev.d)),none]) else none)=_
 rw[Mo rfl,l6 e1]
 rfl
def oX:R->Me Out:=
  (l8 (n5 (n8 (i4 (kI 0) (i4 (kI 0) (i4 (fun _=>some (.bl false)) i7)))) (setAt 1))
  (l8 (n5 (n8 (i4 (kI 0) (i4 (fun _=>some (.bl false)) (i4 (n8 i7) i7)))) (setAt 2))
  (l8 (n5 (n8 (i4 (kI 0) (i4 (kI 0) (i4 (kI 0) (i4 (fun _=>some (.bl false)) i7))))) (setAt 3))
  (m7 (n8 (i4 (kI 0) (i4 (kI 0) (i4 (i5 1) (i4 (i5 2) (i4 (i5 3) (i4 (kI 0) (i4 (fun _=>some .non) (i4 (kI 0) i7)))))))))))))
def bY:LD->OD:=via 1 4 oX
theorem jr(b:D):bY [b]=some p7.d:=l9 ((l6 (o7 rfl rfl)).trans ((l6 (o7 rfl rfl)).trans ((l6 (o7 rfl rfl)).trans (retS rfl))))
def dY:R->Me Out:=
 (n5 (i8 aK (i4 (i5 0) i7)) (setAt 2))
def eI:R->Me Out:=
 (n5 (i8 aL (i4 (i5 0) i7)) (setAt 3))
def sZ:R->Me Bool:=
 (m6 tP (i5 2) (fun _=>some .non))
def ti:R->Me LD:=
 (y8 (i5 2) (k6 p6 (i5 1) (kI 1)) (fun _=>some cY))
def u4:R->LD->Me (Out×LD):=
  (EG (yr (m6 tP (i5 3) (fun _=>some .non)) (m6 G4 (i5 3) (i5 1)))
  (zY 4 (i5 3))
  xb)
def eA:R->Me Out:=
 (m7 (i8 K1 (i4 (i5 4) i7)))
def jg:R->Me Out:=
 (l8 dY (l8 eI (DF 4 i7 (uc 4 sZ ti (vM u4 (ye eA))))))
def be:LD->OD:=via 2 5 jg
def zT(n:Int)(o:Me Int):List Int:=match o with
 | some a=>(List.range (t4 a (n+1) 86400)).map fun (k:Nat)=>a+(k:Int)*86400
 | none=>[]
def EF(n:Int)(o:Me Int):List Int:=match o with
 | some c=>if c<=n then [c] else []
 | none=>[]
def rR(s:WS)(n:Int):List Int:=uz (x6 (zT n (m9 s)++EF n (qM s)))
theorem x4:∀l:List Int,intsOf (l.map D.int)=some l
 | []=>rfl
 | i::l=>by show(intsOf (l.map D.int)).map _=_;rw[x4 l];rfl
theorem ze{a n:Int}(h1:1<=a)(hn:n<259200):t4 a (n+1) 86400<=3:=by
 unfold t4
 split<;>omega
theorem Hv{ds:LD}{ns:List Int}(e:ds=ns.map D.int)(h:ns.length<=4):K1 [.lst ds]=some (.lst ((uz (x6 ns)).map D.int)):=by
 subst e
 show(intsOf _).bind _=_
 rw[x4]
 exact Mo h
theorem JA{i:Nat}{s:R->Me Bool}{f:R->Me LD}{w:R->LD->Me Out}{ρ:R}{ds es:LD}(h1:s ρ=some true)(h2:f ρ=some es)(h3:ρ.length=i)(h4:es.length<=1000):uc i s f w ρ ds=w ρ es:=by
 unfold uc;rw[h1]
 show(f ρ).bind _=_
 rw[h2]
 exact Mo ⟨h3,h4⟩
theorem Jr{i:Nat}{s:R->Me Bool}{f:R->Me LD}{w:R->LD->Me Out}{ρ:R}{ds:LD}(h1:s ρ=some false):uc i s f w ρ ds=w ρ ds:=by
 unfold uc;rw[h1];rfl
theorem xV{s:WS}{a:Int}(h:m9 s=some a):1<=a/\a<=86400:=by
 unfold m9 at h
 split at h
 ·cases h;omega
 ·cases h
theorem jt(s:WS){n:Int}(h0:0<=n)(hn:n<259200):be [s.d,.int n]=some (.lst ((rR s n).map .int)):=by
 have e1:=dA s
 have e2:=dQ s
 have hA:∀a,m9 s=some a->1<=a/\a<=86400:=fun a h=>xV h
 unfold rR
 generalize m9 s=a at *
 generalize qM s=c at *
 have q1:dY [some s.d,some (.int n),none,none,none]=some (.nx [some s.d,some (.int n),some (qQ a),none,none]):=o7 (k7 rfl e1) rfl
 have q2:eI [some s.d,some (.int n),some (qQ a),none,none]=some (.nx [some s.d,some (.int n),some (qQ a),some (qQ c),none]):=o7 (k7 rfl e2) rfl
 have q3:∀w,uc 4 sZ ti w [some s.d,some (.int n),some (qQ a),some (qQ c)] []=w [some s.d,some (.int n),some (qQ a),some (qQ c)] ((zT n a).map D.int):=fun w=>by
  cases a with
  | none=>exact Jr rfl
  | some a =>
   obtain⟨a1,a2⟩:=hA a rfl
   have hl:=ze a1 hn
   have e:wY a (n+1) 86400=(zT n (some a)).map D.int:=by
    show _=((List.range _).map _).map _
    rw[List.map_map];rfl
   rw[<- e]
   refine JA rfl ?_ rfl ?_
   ·show(if -(2 ^ 60)<=a/\a<2 ^ 60 /\ -(2 ^ 60)<=n+1/\n+1<2 ^ 60/\(0:Int)<86400/\(86400:Int)<1073741824 then some (wY a (n+1) 86400) else none)=_
    rw[Mo ⟨by omega,by omega,by omega,by omega,by decide,by decide⟩]
   ·unfold wY;rw[Ms,List.length_range];omega
 have hlA:(zT n a).length<=3:=by
  cases a with
  | none=>exact M_ _
  | some a =>
   obtain⟨a1,a2⟩:=hA a rfl
   have hl:=ze a1 hn
   unfold zT;rw[Ms,List.length_range];exact hl
 have hlC:(EF n c).length<=1:=by
  unfold EF
  split
  ·split<;>simp
  ·decide
 have q4:u4 [some s.d,some (.int n),some (qQ a),some (qQ c)] ((zT n a).map D.int)=some (.nx [some s.d,some (.int n),some (qQ a),some (qQ c)],(zT n a++EF n c).map D.int):=by
  rw[Nn]
  cases c with
  | none =>
   refine(D4 (Lj rfl)).trans ?_
   show some (_,_)=some (_,_++[])
   rw[M5]
  | some c =>
   by_cases h:c<=n
   ·refine(Fk (JX rfl (rj (x:=.int c) (y:=.int n) rfl rfl (dT h)))).trans ?_
    show(if 4=4/\((zT n a).map D.int).length<sizeLine then _ else none)=_
    rw[Mo ⟨rfl,by rw[Ms,PySem.sizeLine_eq];omega⟩]
    unfold EF
    dsimp only
    rw[Mo h];rfl
   ·refine(D4 (JX rfl (rj (x:=.int c) (y:=.int n) rfl rfl (dF h)))).trans ?_
    unfold EF
    dsimp only
    rw[Mx h]
    show some (_,_)=some (_,_++[])
    rw[M5]
 have q6:eA [some s.d,some (.int n),some (qQ a),some (qQ c),some (.lst ((zT n a++EF n c).map D.int))]=some (.rt (.lst ((uz (x6 (zT n a++EF n c))).map D.int))):=
  retS (k7 rfl (Hv rfl (by rw[MP];omega)))
 refine l9 ((l6 q1).trans ((l6 q2).trans ?_))
 show uc 4 sZ ti _ [some s.d,some (.int n),some (qQ a),some (qQ c)] []=_
 rw[q3,Jz q4]
 exact q6
theorem cK{s:WS}{n:Int}(hn:n<259200):(rR s n).length<=4:=by
 unfold rR
 rw[(t5 _).length_eq]
 refine MN (wa _ []) ?_
 have hlA:(zT n (m9 s)).length<=3:=by
  cases h:m9 s with
  | none=>exact M_ _
  | some a =>
   have hl:=ze (xV h).1 hn
   unfold zT;rw[Ms,List.length_range];exact hl
 have hlC:(EF n (qM s)).length<=1:=by
  unfold EF
  split
  ·split<;>simp
  ·decide
 rw[List.length_nil,MP];omega
theorem xp{st:D->R->Me R}{p:R->LD->Me (Out×LD)}{d:D}{es ds ds2:LD}{ρ ρ1 ρ2:R}(h1:st d ρ=some ρ1)(h2:p ρ1 ds=some (.nx ρ2,ds2)):yw st p (d::es) ρ ds=yw st p es ρ2 ds2:=by
 show(st d ρ).bind _=_
 rw[h1]
 show(p ρ1 ds).bind _=_
 rw[h2];rfl
def km:R->Me Out:=
 (m7 (AW (m6 wu (k6 l4 (i5 0) (fun _=>some aR)) (fun _=>some .non)) (kS "back") (v9 JU (k6 l4 (k6 l4 (i5 0) (fun _=>some aR)) (kI 0)))))
def cy:LD->OD:=via 1 1 km
def va(s:WS):Str:=match s.held with
 | none=>oS "back"
 | some (x,_)=>x.X
theorem kf(s:WS):cy [s.d]=some (.str (va s)):=by
 have e6:=w6 s
 unfold va
 rcases hs:s.held with _ | ⟨x,k⟩<;>rw[hs] at e6
 ·exact l9 (retS (Cp (rj (l5 rfl rfl e6) rfl rfl) rfl))
 ·exact l9 (retS (Ec (rj (l5 rfl rfl e6) rfl rfl) (Cg (l5 (l5 rfl rfl e6) rfl (h0 x k)) (I9 x))))
def sg:R->LD->Me (Out×LD):=
  (EG (m6 CO (k6 l4 (i5 3) (kI 0)) (kI 0))
  (zY 4 (n8 (i4 (k6 l4 (i5 3) (kI 0)) (i4 (i8 cy (i4 (i5 1) i7)) i7))))
  xb)
def rZ:R->LD->Me (Out×LD):=
 (A7 4 (ym 1 (sk (i8 be (i4 (k6 l4 (i5 3) (kI 1)) (i4 (k6 l4 (i5 3) (kI 2)) i7)))) (setAt 0) uF (n8 (i4 (k6 p6 (k6 l4 (i5 4) (kI 0)) (i5 0)) (i4 (kS "ring") i7)))))
def qX:R->LD->Me (Out×LD):=(AU sg rZ)
def rE:R->LD->Me (Out×LD):=
 (DK (sk (i8 aI (i4 (i5 0) (i4 (i5 1) (i4 (i5 2) i7))))) (setAt 3) qX)
def cE:R->Me Out:=
 (m7 (i5 4))
def fO:R->Me Out:=
 (DF 4 i7 (vM rE (ye cE)))
def bc:LD->OD:=via 3 5 fO
abbrev Dh:=Int×Str
def sD(p:Dh):D:=.tup [.int p.1,.str p.2]
noncomputable def vf:Str:=oS "ring"
def AM(k:Int)(l:List Int):List Dh:=l.map fun i=>(k+i,vf)
def Ad(b:Bk)(s:WS)(n:Int):List Dh:=match qK b s with
 | none=>AM 0 (rR s n)
 | some t=>if n<t then AM 0 (rR s n) else AM 0 (rR s t)++((t,va s)::AM t (rR (behind b s t) (n - t)))
theorem lS(k:Int)(a b c:OD)(x y:D):∀l:List Int,rQ (setAt 0) uF (n8 (i4 (k6 p6 (k6 l4 (i5 4) (kI 0)) (i5 0)) (i4 (kS "ring") i7))) (l.map D.int) [none,a,b,c,some (.tup [.int k,x,y])]=some ((AM k l).map sD)
 | []=>rfl
 | i::l=>by
  have ih:=lS k a b c x y l
  show(rQ _ _ _ (l.map D.int) _).map (fun r=>D.tup [.int (k+i),.str (oS "ring")]::r)=_
  rw[ih];rfl
theorem xP{a c:OD}{k:Int}(s0 s:WS){n:Int}(ds:LD)(hd:ds.length<=10)(hn0:0<=n)(hn:n<259200) :
  qX [a,some s0.d,c,some (.tup [.int k,s.d,.int n])] ds=some (.nx [a,some s0.d,c,some (.tup [.int k,s.d,.int n])],ds++(if 0<k then [sD (k,va s0)] else [])++(AM k (rR s n)).map sD):=by
 have hl:=cK (s:=s) hn
 have e:=jt s hn0 hn
 have et:=kf s0
 have z:100<=sizeLine:=by decide
 have q1:sg [a,some s0.d,c,some (.tup [.int k,s.d,.int n])] ds=some (.nx [a,some s0.d,c,some (.tup [.int k,s.d,.int n])],ds++(if 0<k then [sD (k,va s0)] else [])):=by
  by_cases hk:0<k
  ·rw[Mo hk]
   refine(Fk (rj (x:=.int k) (y:=.int 0) (l5 rfl rfl rfl) rfl (dT hk))).trans ?_
   show(n8 _ _).bind _=_
   rw[tupS (n9 (l5 rfl rfl rfl) (n9 (k7 rfl et) rfl)),Mn]
   exact Mo ⟨rfl,by omega⟩
  ·rw[Mx hk,M5]
   exact D4 (rj (x:=.int k) (y:=.int 0) (l5 rfl rfl rfl) rfl (dF hk))
 have hl1:(ds++(if 0<k then [sD (k,va s0)] else [])).length<=11:=by
  rw[MP]
  have:(if 0<k then [sD (k,va s0)] else []).length<=1:=by split<;>simp
  omega
 generalize ds++(if 0<k then [sD (k,va s0)] else [])=ds1 at *
 have q:sk (i8 be (i4 (k6 l4 (i5 3) (kI 1)) (i4 (k6 l4 (i5 3) (kI 2)) i7))) [a,some s0.d,c,some (.tup [.int k,s.d,.int n])]=some ((rR s n).map D.int):=by
  show(i8 be _ _).bind _=_
  rw[k7 (ds:=[s.d,.int n]) (n9 (l5 rfl rfl rfl) (n9 (l5 rfl rfl rfl) rfl)) e]
  rfl
 have q2:ym 1 (sk (i8 be (i4 (k6 l4 (i5 3) (kI 1)) (i4 (k6 l4 (i5 3) (kI 2)) i7)))) (setAt 0) uF (n8 (i4 (k6 p6 (k6 l4 (i5 4) (kI 0)) (i5 0)) (i4 (kS "ring") i7))) [a,some s0.d,c,some (.tup [.int k,s.d,.int n])]=some (.lst ((AM k (rR s n)).map sD)):=by
  unfold ym
  rw[q,Mn,Mo (by rw[Ms];omega)]
  show(rQ _ _ _ _ [none,a,some s0.d,c,_]).map _=_
  rw[lS];rfl
 have q3:rZ [a,some s0.d,c,some (.tup [.int k,s.d,.int n])] ds1=some (.nx [a,some s0.d,c,some (.tup [.int k,s.d,.int n])],ds1++(AM k (rR s n)).map sD):=by
  show A7 4 _ _ ds1=_
  unfold A7
  rw[q2,Mn]
  exact Mo ⟨rfl,by rw[Ms,AM,Ms];omega⟩
 show AU _ _ _ ds=_
 unfold AU
 rw[q1,Mn]
 exact q3
theorem DI(b:Bk)(s:WS){n:Int}(hn:n<259200):(Ad b s n).length<=9:=by
 have h0:=cK (s:=s) hn
 unfold Ad
 cases ht:qK b s with
 | none=>simp[AM];omega
 | some t =>
  have hp:=vi ht
  dsimp only
  split
  ·simp[AM];omega
  ·have h1:=cK (s:=s) (n:=t) (by omega)
   have h2:=cK (s:=behind b s t) (n:=n - t) (by omega)
   simp[AM];omega
theorem fq{b:Bk}{s:WS}{n:Int}(ok:b.Ok)(w:s.Wk b)(hn0:0<=n)(hn:n<259200):bc [b.d,s.d,.int n]=some (.lst ((Ad b s n).map sD)):=by
 have e1:=eE n ok w
 have key:∃x,rE [some b.d,some s.d,some (.int n),none] []=some (.nx [some b.d,some s.d,some (.int n),some x],(Ad b s n).map sD):=by
  have hit:sk (i8 aI (i4 (i5 0) (i4 (i5 1) (i4 (i5 2) i7)))) [some b.d,some s.d,some (.int n),none]=some (rB b s n):=by
   show(i8 aI _ _).bind _=_
   rw[k7 rfl e1];rfl
  have q:rE [some b.d,some s.d,some (.int n),none] []=yw (setAt 3) qX (rB b s n) [some b.d,some s.d,some (.int n),none] []:=by
   show(sk _ _).bind _=_
   rw[hit];rfl
  rw[q]
  have one:∀x:D,x=.tup [.int 0,s.d,.int n]->yw (setAt 3) qX [x] [some b.d,some s.d,some (.int n),none] []=some (.nx [some b.d,some s.d,some (.int n),some x],(AM 0 (rR s n)).map sD):=fun x hx=>by
   subst hx
   rw[xp rfl (xP s s [] (M_ _) hn0 hn)];rfl
  unfold rB Ad
  cases h:qK b s with
  | none=>exact⟨_,one _ rfl⟩
  | some t =>
   dsimp only
   by_cases ht:n<t
   ·rw[Mo ht,Mo ht];exact⟨_,one _ rfl⟩
   ·rw[Mx ht,Mx ht]
    have htp:=vi h
    have hl:=cK (s:=s) (n:=t) (by omega)
    refine⟨.tup [.int t,(behind b s t).d,.int (n - t)],?_⟩
    rw[xp rfl (xP s s [] (M_ _) (by omega) (by omega)),xp rfl (xP s (behind b s t) _ ?_ (by omega) (by omega)),Mo (show 0<t by omega),Mx (show ¬ (0:Int)<0 by decide)]
    ·simp only[List.nil_append,Nn,M9,List.append_assoc,List.cons_append];rfl
    ·rw[Mx (show ¬ (0:Int)<0 by decide)]
     simp[AM];omega
 obtain⟨x,key⟩:=key
 refine l9 ?_
 show vM rE (ye cE) [some b.d,some s.d,some (.int n),none] []=_
 rw[Jz key]
 rfl
def jZ:R->Me Out:=
  (l8 (vO (m6 uV (k6 l4 (i5 2) (kI 0)) (kS "ticks"))
  (m7 (i8 bc (i4 (i5 0) (i4 (i5 1) (i4 (k6 l4 (i5 2) (kI 1)) i7)))))
  rg)
  (l8 (vO (yr (m6 uV (k6 l4 (i5 2) (kI 0)) (kS "up")) (vC (i8 bB (i4 (i5 1) (i4 (k6 l4 (i5 2) (kI 1)) i7)))))
  (m7 (CG (i4 (n8 (i4 (kI 0) (i4 (k6 l4 (i5 2) (kI 1)) i7))) i7)))
  rg)
  (m7 (CG i7))))
def aY:LD->OD:=via 3 3 jZ
def CC(s:WS)(x:ub):Bool:=match s.held with
 | some (y,k)=>decide (y=x)&&k.isSome
 | none=>false
def ED(b:Bk)(s:WS):Ev->List Dh
 | .ticks n=>Ad b s n
 | .up x=>if CC s x then [(0,x.x)] else []
 | .down _=>[]
def EJ:Ev->Int
 | .ticks n=>n
 | _=>0
def yT:Ev->Prop
 | .ticks n=>1<=n/\n<259200
 | _=>True
theorem Gs:uV (.str (oS "down")) (.str (oS "ticks"))=some false:=rfl
theorem Et:uV (.str (oS "up")) (.str (oS "ticks"))=some false:=rfl
theorem Gz:uV (.str (oS "ticks")) (.str (oS "ticks"))=some true:=rfl
theorem JE:uV (.str (oS "down")) (.str (oS "up"))=some false:=rfl
theorem jx{b:Bk}{s:WS}(ok:b.Ok)(w:s.Wk b)(e:Ev)(h:yT e):aY [b.d,s.d,e.d]=some (.lst ((ED b s e).map sD)):=by
 cases e with
 | down x=>exact l9 ((l6 (vF (rj (l5 rfl rfl rfl) rfl Gs))).trans ((l6 (vF (Lj (rj (l5 rfl rfl rfl) rfl JE)))).trans (retS rfl)))
 | ticks n=>exact l9 (sY ((wH (rj (l5 rfl rfl rfl) rfl Gz)).trans (retS (k7 (n9 rfl (n9 rfl (n9 (l5 rfl rfl rfl) rfl))) (fq ok w (by have:=h.1;omega) h.2)))))
 | up x =>
  have e:=ia s x
  have hs:bB [s.d,.str x.x]=some (.bl (CC s x)):=e
  show aY [b.d,s.d,(Ev.up x).d]=some (.lst ((if CC s x then [((0:Int),x.x)] else []).map sD))
  cases hx:CC s x with
  | false =>
   rw[hx] at hs
   exact l9 ((l6 (vF (rj (l5 rfl rfl rfl) rfl Et))).trans ((l6 (vF (JX (rj (l5 rfl rfl rfl) rfl AY) (AD (k7 (n9 rfl (n9 (l5 rfl rfl rfl) rfl)) hs))))).trans (retS rfl)))
  | true =>
   rw[hx] at hs
   exact l9 ((l6 (vF (rj (l5 rfl rfl rfl) rfl Et))).trans (sY ((wH (JX (rj (l5 rfl rfl rfl) rfl AY) (AD (k7 (n9 rfl (n9 (l5 rfl rfl rfl) rfl)) hs)))).trans (retS (JD (n9 (tupS (n9 rfl (n9 (l5 rfl rfl rfl) rfl))) rfl))))))
def vJ:R->LD->Me (Out×LD):=
 (A7 5 (ym 1 (sk (i8 aY (i4 (i5 0) (i4 (i5 2) (i4 (i5 4) i7))))) (setAt 0) uF (n8 (i4 (k6 p6 (i5 4) (k6 l4 (i5 0) (kI 0))) (i4 (k6 l4 (i5 0) (kI 1)) i7)))))
def yn:R->LD->Me (Out×LD):=
  (AG (l8 (n5 (i8 cN (i4 (i5 0) (i4 (i5 2) (i4 (i5 4) i7)))) (setAt 2))
  (vO (m6 uV (k6 l4 (i5 4) (kI 0)) (kS "ticks"))
  (n5 (k6 p6 (i5 3) (k6 l4 (i5 4) (kI 1))) (setAt 3))
  rg)))
def u7:R->LD->Me (Out×LD):=(AU vJ yn)
def mC:R->Me Out:=
 (n5 (i8 bY (i4 (i5 0) i7)) (setAt 2))
def nq:R->Me Out:=
 (n5 (kI 0) (setAt 3))
def wG:R->LD->Me (Out×LD):=
 (DK (sk (i5 1)) (setAt 4) u7)
def iZ:R->Me Out:=
 (m7 (i8 zx (i4 (i5 5) i7)))
def pA:R->Me Out:=
 (l8 mC (l8 nq (DF 5 i7 (vM wG (ye iZ)))))
def cX:LD->OD:=via 2 6 pA
def AE(b:Bk):WS->Int->List Ev->List Dh
 | _,_,[]=>[]
 | s,k,e::es=>(ED b s e).map (fun p=>(k+p.1,p.2))++AE b (gone b s e) (k+EJ e) es
theorem zA(b:Bk)(s:WS){e:Ev}(h:yT e):(ED b s e).length<=9:=by
 cases e with
 | ticks n=>exact DI b s h.2
 | up x=>show(if CC s x then [((0:Int),x.x)] else []).length<=9;split<;>simp
 | down x=>exact M_ _
theorem kO(k:Int)(a b c e:OD):∀l:List Dh,rQ (setAt 0) uF (n8 (i4 (k6 p6 (i5 4) (k6 l4 (i5 0) (kI 0))) (i4 (k6 l4 (i5 0) (kI 1)) i7))) (l.map sD) [none,a,b,c,some (.int k),e]=some ((l.map fun p=>(k+p.1,p.2)).map sD)
 | []=>rfl
 | i::l=>by
  have ih:=kO k a b c e l
  show(rQ _ _ _ (l.map sD) _).map (fun r=>D.tup [.int (k+i.1),.str i.2]::r)=_
  rw[ih];rfl
theorem Bb{b:Bk}{s:WS}(ok:b.Ok)(w:s.Wk b){o1:OD}{k:Int}(e:Ev)(h:yT e)(ds:LD)(hd:ds.length<=1000) :
  u7 [some b.d,o1,some s.d,some (.int k),some e.d] ds=some (.nx [some b.d,o1,some (gone b s e).d,some (.int (k+EJ e)),some e.d],ds++((ED b s e).map fun p=>(k+p.1,p.2)).map sD):=by
 have e1:=jx ok w e h
 have e2:=lC ok w e
 have hl:=zA b s h
 have z:2000<=sizeLine:=by decide
 have q:sk (i8 aY (i4 (i5 0) (i4 (i5 2) (i4 (i5 4) i7)))) [some b.d,o1,some s.d,some (.int k),some e.d]=some ((ED b s e).map sD):=by
  show(i8 aY _ _).bind _=_
  rw[k7 rfl e1];rfl
 have q1:ym 1 (sk (i8 aY (i4 (i5 0) (i4 (i5 2) (i4 (i5 4) i7))))) (setAt 0) uF (n8 (i4 (k6 p6 (i5 4) (k6 l4 (i5 0) (kI 0))) (i4 (k6 l4 (i5 0) (kI 1)) i7))) [some b.d,o1,some s.d,some (.int k),some e.d]=some (.lst (((ED b s e).map fun p=>(k+p.1,p.2)).map sD)):=by
  unfold ym
  rw[q,Mn,Mo (by rw[Ms];omega)]
  show(rQ _ _ _ _ [none,some b.d,o1,some s.d,_,_]).map _=_
  rw[kO];rfl
 have q2:vJ [some b.d,o1,some s.d,some (.int k),some e.d] ds=some (.nx [some b.d,o1,some s.d,some (.int k),some e.d],ds++((ED b s e).map fun p=>(k+p.1,p.2)).map sD):=by
  show A7 5 _ _ ds=_
  unfold A7
  rw[q1,Mn]
  exact Mo ⟨rfl,by rw[Ms,Ms];omega⟩
 have q3:l8 (n5 (i8 cN (i4 (i5 0) (i4 (i5 2) (i4 (i5 4) i7)))) (setAt 2)) (vO (m6 uV (k6 l4 (i5 4) (kI 0)) (kS "ticks")) (n5 (k6 p6 (i5 3) (k6 l4 (i5 4) (kI 1))) (setAt 3)) rg) [some b.d,o1,some s.d,some (.int k),some e.d]=some (.nx [some b.d,o1,some (gone b s e).d,some (.int (k+EJ e)),some e.d]):=by
  refine(l6 (o7 (k7 rfl e2) rfl)).trans ?_
  cases e with
  | ticks n=>exact(wH (rj (l5 rfl rfl rfl) rfl Gz)).trans (o7 (l5 rfl (l5 rfl rfl rfl) rfl) rfl)
  | up x=>rw[show k+EJ (.up x)=k from NE k];exact vF (rj (l5 rfl rfl rfl) rfl Et)
  | down x=>rw[show k+EJ (.down x)=k from NE k];exact vF (rj (l5 rfl rfl rfl) rfl Gs)
 show AU _ _ _ ds=_
 unfold AU
 rw[q2,Mn]
 show AG _ _ _=_
 unfold AG
 rw[q3];rfl
theorem xG{b:Bk}(ok:b.Ok)(o1:OD):∀(es:List Ev) (s:WS) (k:Int) (o:OD) (ds:LD),s.Ok b->(∀e∈es,e.Ok/\yT e)->ds.length+9*es.length<=1000 ->
  ∃s' k' o',yw (setAt 4) u7 (es.map Ev.d) [some b.d,o1,some s.d,some (.int k),o] ds=some (.nx [some b.d,o1,s',k',o'],ds++(AE b s k es).map sD)
 | [],s,k,o,ds,_,_,_=>⟨some s.d,some (.int k),o,by show some (Out.nx _,ds)=some (Out.nx _,ds++[]);rw[M5]⟩
 | e::es,s,k,o,ds,w,h,hl=>by
  obtain⟨h1,h2⟩:=h e (.head _)
  have hl1:=zA b s h2
  rw[Nd] at hl
  obtain⟨s',k',o',ih⟩:=xG ok o1 es (gone b s e) (k+EJ e) (some e.d) (ds++((ED b s e).map fun p=>(k+p.1,p.2)).map sD) (zr ok w e h1) (fun x hx=>h x (.tail _ hx)) (by simp;omega)
  refine⟨s',k',o',?_⟩
  rw[M9,xp rfl (Bb ok w.toWk e h2 ds (by omega)),ih,List.append_assoc,<- Nn];rfl
theorem oU{b:Bk}(ok:b.Ok)(es:List Ev)(h:∀e∈es,e.Ok/\yT e)(hl:es.length<=100):cX [b.d,.tup (es.map Ev.d)]=some (.tup ((AE b p7 0 es).map sD)):=by
 obtain⟨s',k',o',e⟩:=xG ok (some (.tup (es.map Ev.d))) es p7 0 none [] (xS ok) h (by simp;omega)
 refine l9 ((l6 (o7 (k7 rfl (jr _)) rfl)).trans ((l6 (o7 rfl rfl)).trans ?_))
 show vM wG (ye iZ) [some b.d,some (.tup (es.map Ev.d)),some p7.d,some (.int 0),none] []=_
 have q:wG [some b.d,some (.tup (es.map Ev.d)),some p7.d,some (.int 0),none] []=some (.nx [some b.d,some (.tup (es.map Ev.d)),s',k',o'],(AE b p7 0 es).map sD):=e
 rw[Jz q]
 rfl
def jp:R->Me Out:=
  (l8 (n5 (i8 aK (i4 (i5 0) i7)) (setAt 2))
  (l8 (n5 (i8 aL (i4 (i5 0) i7)) (setAt 3))
  (l8 (n5 (AW (AA (m6 wu (i5 2) (fun _=>some .non)) (m6 CO (i5 2) (i5 1))) (kI 0) (k6 p6 (k6 tm (k6 um (i5 1) (i5 2)) (fun _=>some cY)) (kI 1))) (setAt 4))
  (l8 (n5 (AW (AA (m6 wu (i5 3) (fun _=>some .non)) (AA (m6 CO (i5 3) (i5 1)) (m6 zj (i5 3) (i5 2)))) (kI 0) (kI 1)) (setAt 5))
  (m7 (k6 p6 (i5 4) (i5 5)))))))
def aZ:LD->OD:=via 2 6 jp
def vT(b:Bk)(s:WS)(n:Int):List Int:=match qK b s with
 | none=>rR s n
 | some t=>if n<t then rR s n else rR s t++(rR (behind b s t) (n - t)).map (t+·)
def J3(n:Int)(o:Me Int):Int:=match o with
 | some a=>if n<a then 0 else (n - a) / 86400+1
 | none=>0
def KP(n:Int)(o p:Me Int):Int:=match p with
 | some c=>if n<c then 0 else if o=some c then 0 else 1
 | none=>0
theorem Dz{c d:R->Me Bool}{ρ:R}(h1:c ρ=some true):AA c d ρ=some true:=by simp[h1]
theorem BW{c d:R->Me Bool}{ρ:R}{b:Bool}(h1:c ρ=some false)(h2:d ρ=some b):AA c d ρ=some b:=by simp[h1,h2]
theorem nw(c:Int)(o:Me Int):zj (.int c) (qQ o)=some (decide (o=some c)):=by
 cases o with
 | none=>rfl
 | some a =>
  show some (c==a)=_
  by_cases h:a=c
  ·subst h;simp
  ·have h1:¬ c=a:=fun z=>h z.symm
   have h2:¬ (some a=some c):=fun z=>h (ME z)
   rw[MZ h2,M8.mpr h1]
theorem L_(n:Int)(a:Me Int)(r:R)(x:OD):(AW (AA (m6 wu (i5 2) (fun _=>some .non)) (m6 CO (i5 2) (i5 1))) (kI 0) (k6 p6 (k6 tm (k6 um (i5 1) (i5 2)) (fun _=>some cY)) (kI 1))) (x::some (.int n)::some (qQ a)::r)=some (.int (J3 n a)):=by
 cases a with
 | none=>exact Cp (Dz (rj rfl rfl rfl)) rfl
 | some a =>
  show _=some (D.int (if n<a then 0 else (n - a) / 86400+1))
  by_cases h:n<a
  ·rw[Mo h]
   exact Cp (BW (rj rfl rfl rfl) (rj rfl rfl (dT h))) rfl
  ·rw[Mx h]
   exact Ec (J4 (rj rfl rfl rfl) (rj rfl rfl (dF h))) (l5 (l5 (l5 rfl rfl rfl) rfl rfl) rfl rfl)
theorem L8(n:Int)(a c:Me Int)(r:R)(x:OD):(AW (AA (m6 wu (i5 3) (fun _=>some .non)) (AA (m6 CO (i5 3) (i5 1)) (m6 zj (i5 3) (i5 2)))) (kI 0) (kI 1)) (x::some (.int n)::some (qQ a)::some (qQ c)::r)=some (.int (KP n a c)):=by
 cases c with
 | none=>exact Cp (Dz (rj rfl rfl rfl)) rfl
 | some c =>
  show _=some (D.int (if n<c then 0 else if a=some c then 0 else 1))
  by_cases h:n<c
  ·rw[Mo h]
   exact Cp (BW (rj rfl rfl rfl) (Dz (rj rfl rfl (dT h)))) rfl
  ·rw[Mx h]
   by_cases h2:a=some c
   ·rw[Mo h2]
    exact Cp (BW (rj rfl rfl rfl) (BW (rj rfl rfl (dF h)) (rj rfl rfl ((nw c a).trans (by rw[Nc h2]))))) rfl
   ·rw[Mx h2]
    exact Ec (J4 (rj rfl rfl rfl) (J4 (rj rfl rfl (dF h)) (rj rfl rfl ((nw c a).trans (by rw[MZ h2]))))) rfl
theorem iL(s:WS)(n:Int):aZ [s.d,.int n]=some (.int (J3 n (m9 s)+KP n (m9 s) (qM s))):=
 l9 ((l6 (o7 (k7 rfl (dA s)) rfl)).trans ((l6 (o7 (k7 rfl (dQ s)) rfl)).trans ((l6 (o7 (L_ n _ _ _) rfl)).trans ((l6 (o7 (L8 n _ _ _ _) rfl)).trans (retS (l5 rfl rfl rfl))))))
def gl:R->Me Out:=
 (m7 (i8 EO (i4 (ym 1 (sk (i8 aI (i4 (i5 0) (i4 (i5 1) (i4 (i5 2) i7))))) (setAt 0) uF (i8 aZ (i4 (k6 l4 (i5 0) (kI 1)) (i4 (k6 l4 (i5 0) (kI 2)) i7)))) i7)))
def bn:LD->OD:=via 3 3 gl
theorem oG:∀(l σ:List Int),(σ++l).Nodup->l.foldl sf σ=σ++l
 | [],σ,_=>(M5 σ).symm
 | x::l,σ,h=>by
  have hx:¬ x∈σ:=fun z=>(List.nodup_append.mp h).2.2 x z x (.head _) rfl
  have e:sf σ x=σ++[x]:=by
   unfold sf
   rw[Mx]
   intro z
   obtain⟨y,hy,e⟩:=List.any_eq_true.mp z
   rw[NF e] at hy
   exact hx hy
  show l.foldl sf (sf σ x)=_
  rw[e,oG l (σ++[x]) (by rw[List.append_assoc];exact h),List.append_assoc];rfl
theorem Hm(n:Int)(o:Me Int):(zT n o).Nodup:=by
 cases o with
 | none=>exact List.nodup_nil
 | some a =>
  show((List.range _).map _).Nodup
  rw[List.Nodup,List.pairwise_map]
  refine List.Pairwise.imp ?_ List.nodup_range
  intro x y hxy z
  exact hxy (by omega)
theorem Fu(n:Int)(o:Me Int):((zT n o).length:Int)=J3 n o:=by
 cases o with
 | none=>rfl
 | some a =>
  show(((List.range _).map _).length:Int)=if n<a then 0 else (n - a) / 86400+1
  rw[Ms,List.length_range]
  unfold t4
  by_cases h:n<a
  ·rw[Mx (by omega),Mo h];rfl
  ·rw[Mo (by omega),Mx h,show n+1 - a - 1=n - a by omega]
   have:0<=(n - a) / 86400:=by omega
   omega
theorem G3{n c:Int}{o:Me Int}(hc:c<3600)(hn:c<=n)(ha:∀a,o=some a->1<=a):c∈zT n o↔o=some c:=by
 cases o with
 | none=>constructor<;>intro h<;>cases h
 | some a =>
  have ha1:=ha a rfl
  constructor
  ·intro h
   obtain⟨k,hk,e⟩:=List.mem_map.mp h
   have e':a+(k:Int)*86400=c:=e
   have hk0:k=0:=by omega
   rw[hk0] at e'
   rw[show a=c by simpa using e']
  ·intro h
   cases h
   refine List.mem_map.mpr ⟨0,List.mem_range.mpr ?_,by simp⟩
   unfold t4
   rw[Mo (by omega)]
   have:0<=(n+1 - c - 1) / 86400:=by omega
   omega
theorem G9{b:Bk}{s:WS}(w:s.Wk b)(n:Int):J3 n (m9 s)+KP n (m9 s) (qM s)=((rR s n).length:Int):=by
 have ha:∀a,m9 s=some a->1<=a:=fun a h=>(xV h).1
 have hc:∀c,qM s=some c->c<3600:=fun c h=>by
  unfold qM at h
  split at h
  ·cases h;exact w.cl1
  ·cases h
 unfold rR
 rw[(t5 _).length_eq]
 unfold x6
 rw[List.foldl_append,oG _ [] (by simpa using Hm n _),List.nil_append,<- Fu]
 cases hcc:qM s with
 | none=>show _+0=_;rw[NE];rfl
 | some c =>
  have h1:=hc c hcc
  show _+(if n<c then (0:Int) else if m9 s=some c then 0 else 1)=(((if c<=n then [c] else []).foldl sf (zT n (m9 s))).length:Int)
  by_cases h:n<c
  ·rw[Mo h,Mx (show ¬ c<=n by omega)];simp
  ·rw[Mx h,Mo (show c<=n by omega)]
   have hin:=G3 (n:=n) h1 (by omega) ha
   show _=((sf (zT n (m9 s)) c).length:Int)
   unfold sf
   by_cases h2:m9 s=some c
   ·have ht:((zT n (m9 s)).any fun x=>x==c)=true:=List.any_eq_true.mpr ⟨c,hin.mpr h2,by simp⟩
    rw[Mo h2,Mo ht];simp
   ·rw[Mx h2,Mx]
    ·simp
    ·intro z
     obtain⟨y,hy,e⟩:=List.any_eq_true.mp z
     rw[NF e] at hy
     exact h2 (hin.mp hy)
theorem jy{b:Bk}{s:WS}(w:s.Wk b)(n:Int):aZ [s.d,.int n]=some (.int ((rR s n).length:Int)):=by
 rw[iL,G9 w]
theorem Gm{i:Int}(h0:0<=i)(h1:i<=100):EO [.lst [.int i]]=some (.int i):=by
 show(if 1<=1000/\[i].all _=true then some (D.int [i].sum) else none)=_
 rw[Mo ⟨by decide,by simp;omega⟩]
 simp
theorem Ik{i j:Int}(h0:0<=i)(h1:i<=100)(h2:0<=j)(h3:j<=100):EO [.lst [.int i,.int j]]=some (.int (i+j)):=by
 show(if 2<=1000/\[i,j].all _=true then some (D.int [i,j].sum) else none)=_
 rw[Mo ⟨by decide,by simp;omega⟩]
 simp
theorem Av{st:D->R->Me R}{e:R->OD}{ρ ρ1:R}{d x:D}{ds xs:LD}(h1:st d ρ=some ρ1)(h2:e ρ1=some x)(h3:rQ st uF e ds ρ=some xs):rQ st uF e (d::ds) ρ=some (x::xs):=by simp[rQ,h1,h2,h3]
theorem qI{b:Bk}{s:WS}{n:Int}(ok:b.Ok)(w:s.Wk b)(h0:0<=n)(hn:n<259200):bn [b.d,s.d,.int n]=some (.int ((vT b s n).length:Int)):=by
 have e1:=eE n ok w
 have z:2<=sizeLine:=by decide
 have q:sk (i8 aI (i4 (i5 0) (i4 (i5 1) (i4 (i5 2) i7)))) [some b.d,some s.d,some (.int n)]=some (rB b s n):=by
  show(i8 aI _ _).bind _=_
  rw[k7 rfl e1];rfl
 have one:∀(k:Int) (s':WS) (m:Int),s'.Wk b->i8 aZ (i4 (k6 l4 (i5 0) (kI 1)) (i4 (k6 l4 (i5 0) (kI 2)) i7)) [some (.tup [.int k,s'.d,.int m]),some b.d,some s.d,some (.int n)]=some (.int ((rR s' m).length:Int)):=fun k s' m w' =>
  k7 (n9 (l5 rfl rfl rfl) (n9 (l5 rfl rfl rfl) rfl)) (jy w' m)
 have len:∀(s':WS) (m:Int),m<259200->((rR s' m).length:Int)<=100:=fun s' m hm=>by have:=cK (s:=s') hm;omega
 have lc:∀(l:LD),(rB b s n).length<=2->rQ (setAt 0) uF (i8 aZ (i4 (k6 l4 (i5 0) (kI 1)) (i4 (k6 l4 (i5 0) (kI 2)) i7))) (rB b s n) [none,some b.d,some s.d,some (.int n)]=some l ->
   ym 1 (sk (i8 aI (i4 (i5 0) (i4 (i5 1) (i4 (i5 2) i7))))) (setAt 0) uF (i8 aZ (i4 (k6 l4 (i5 0) (kI 1)) (i4 (k6 l4 (i5 0) (kI 2)) i7))) [some b.d,some s.d,some (.int n)]=some (.lst l):=fun l hl hc=>by
  unfold ym
  rw[q,Mn,Mo (by omega)]
  exact congrArg (Option.map D.lst) hc
 unfold rB at lc
 unfold vT
 cases ht:qK b s with
 | none =>
  rw[ht] at lc
  exact l9 (retS (k7 (n9 (lc _ (by show 1<=2;decide) (Av rfl (one _ _ _ w) rfl)) rfl) (Gm (Int.natCast_nonneg _) (len s n hn))))
 | some t =>
  rw[ht] at lc
  dsimp only at lc ⊢
  have hp:=vi ht
  by_cases h:n<t
  ·rw[Mo h] at lc ⊢
   exact l9 (retS (k7 (n9 (lc _ (by show 1<=2;decide) (Av rfl (one _ _ _ w) rfl)) rfl) (Gm (Int.natCast_nonneg _) (len s n hn))))
  ·rw[Mx h] at lc ⊢
   have wb:(behind b s t).Wk b:=(w.cnt (n:=t) (by omega)).trn ok
   rw[MP,Ms,Int.natCast_add]
   exact l9 (retS (k7 (n9 (lc _ (by show 2<=2;decide) (Av rfl (one _ _ _ w) (Av rfl (one _ _ _ wb) rfl))) rfl) (Ik (Int.natCast_nonneg _) (len s t (by omega)) (Int.natCast_nonneg _) (len _ (n - t) (by omega)))))
def lu:R->Me Out:=
 (m7 (AW (m6 uV (k6 l4 (i5 2) (kI 0)) (kS "ticks")) (i8 bn (i4 (i5 0) (i4 (i5 1) (i4 (k6 l4 (i5 2) (kI 1)) i7)))) (kI 0)))
def cj:LD->OD:=via 3 3 lu
def ve(b:Bk)(s:WS):Ev->Int
 | .ticks n=>((vT b s n).length:Int)
 | _=>0
def zl:Ev->Prop
 | .ticks n=>1<=n/\n<259200
 | _=>True
theorem kT{b:Bk}{s:WS}(ok:b.Ok)(w:s.Wk b)(e:Ev)(h:zl e):cj [b.d,s.d,e.d]=some (.int (ve b s e)):=by
 cases e with
 | ticks n=>exact l9 (retS (Cp (rj (l5 rfl rfl rfl) rfl rfl) (k7 (n9 rfl (n9 rfl (n9 (l5 rfl rfl rfl) rfl))) (qI ok w (by have:=h.1;omega) h.2))))
 | down x=>exact l9 (retS (Ec (rj (l5 rfl rfl rfl) rfl rfl) rfl))
 | up x=>exact l9 (retS (Ec (rj (l5 rfl rfl rfl) rfl rfl) rfl))
def cO(C:Nat):MU:=
  (vW (uv (n5 (i8 cN (i4 (v9 (tK C (oS "book")) (i5 0)) (i4 (v9 (tK C (oS "present")) (i5 0)) (i4 (i5 1) i7)))) (setAt 2)))
  (vW (uv (n5 (k6 p6 (v9 (tK C (oS "rung")) (i5 0)) (i8 cj (i4 (v9 (tK C (oS "book")) (i5 0)) (i4 (v9 (tK C (oS "present")) (i5 0)) (i4 (i5 1) i7))))) (setAt 3)))
  (vW (FD 0 C (oS "past") (n8 (i4 (i5 1) (i4 (v9 (tK C (oS "present")) (i5 0)) (i4 (v9 (tK C (oS "rung")) (i5 0)) i7)))))
  (vW (vU 0 C (oS "present") (i5 2))
  (vU 0 C (oS "rung") (i5 3))))))
def aM(C:Nat):LD->Me (D×D):=Am 2 4 0 (cO C)
def Wo(C a l:Nat)(b:Bk)(s:WS)(r:Int)(p:LD):D:=.obj (C+2) a [oS "book",oS "present",oS "rung",oS "past"] [b.d,s.d,.int r,.obj 0 l [] p]
theorem br{α:Type}{f:α->D}(h:∀x,qU (f x)=true):∀l:List α,p8 (l.map f)=true
 | []=>rfl
 | x::l=>by show(qU (f x)&&p8 (l.map f))=true;rw[h x,br h l];rfl
theorem oT(r:vN×Nat):qU (xD r)=true:=rfl
theorem qp(m:Md):qU m.d=true:=by
 show(true&&(true&&(p8 (m.rows.map xD)&&true)))=true
 rw[br oT];rfl
theorem fY(b:Bk):qU b.d=true:=by
 show(true&&(true&&(p8 (b.modes.map Md.d)&&true)))=true
 rw[br qp];rfl
theorem dk(s:WS):qU s.d=true:=bD (oy s)
theorem dh(e:Ev):qU e.d=true:=by cases e<;>rfl
noncomputable def sd(s:WS)(e:Ev)(r:Int):D:=.tup [e.d,s.d,.int r]
theorem iq(s:WS)(e:Ev)(r:Int):qU (sd s e r)=true:=by
 show(qU e.d&&(qU s.d&&(true&&true)))=true
 rw[dh,dk];rfl
section
variable{C a l:Nat}{b:Bk}{s s':WS}{r:Int}{p:LD}{ρ:R}{f:R->OD}
theorem Gd:tK C (oS "book") (Wo C a l b s r p)=some b.d:=by show(if C+2=C+2 then _ else none)=_;rw[Mo rfl];rfl
theorem BN:tK C (oS "present") (Wo C a l b s r p)=some s.d:=by show(if C+2=C+2 then _ else none)=_;rw[Mo rfl];rfl
theorem D5:tK C (oS "rung") (Wo C a l b s r p)=some (.int r):=by show(if C+2=C+2 then _ else none)=_;rw[Mo rfl];rfl
theorem wS:zv [a,l] (a::[b.d,s.d,.int r,.obj 0 l [] p].flatMap ut)=true:=by
 show zv [a,l] [a,l]=true
 simp[zv]
theorem Kk(hn:p8 p=true):[b.d,s.d,.int r,.obj 0 l [] p].all okN=true:=by
 show(qU b.d&&(qU s.d&&(true&&(p8 p&&true))))=true
 rw[fY,dk,hn];rfl
theorem IT(hn:p8 p=true)(hb:rS 0 (some (Wo C a l b s r p)::ρ)=true)(hf:f (some (Wo C a l b s r p)::ρ)=some s'.d):vU 0 C (oS "present") f [a,l] (some (Wo C a l b s r p)::ρ)=some (.nx (some (Wo C a l b s' r p)::ρ)):=by
 show(f _).bind _=_
 rw[hf,Mn]
 exact Mo ⟨rfl,dk _,hb,wS,by decide,Kk hn,dk s⟩
theorem JF{r':Int}(hn:p8 p=true)(hb:rS 0 (some (Wo C a l b s r p)::ρ)=true)(hf:f (some (Wo C a l b s r p)::ρ)=some (.int r')):vU 0 C (oS "rung") f [a,l] (some (Wo C a l b s r p)::ρ)=some (.nx (some (Wo C a l b s r' p)::ρ)):=by
 show(f _).bind _=_
 rw[hf,Mn]
 exact Mo ⟨rfl,rfl,hb,wS,by decide,Kk hn,rfl⟩
theorem IL{d:D}(hn:p8 p=true)(hp:p.length<1000)(hd:qU d=true)(hb:rS 0 (some (Wo C a l b s r p)::ρ)=true)(hf:f (some (Wo C a l b s r p)::ρ)=some d):FD 0 C (oS "past") f [a,l] (some (Wo C a l b s r p)::ρ)=some (.nx (some (Wo C a l b s r (p++[d]))::ρ)):=by
 show(f _).bind _=_
 rw[hf,Mn]
 exact Mo ⟨rfl,hd,hb,wS,hp,hn,by show(qU b.d&&(qU s.d&&(true&&(true&&true))))=true;rw[fY,dk];rfl,by simp⟩
end
theorem Di{C a l:Nat}{b:Bk}{s:WS}{r:Int}{p:LD}(ok:b.Ok)(w:s.Wk b)(e:Ev)(h:zl e)(hp:p.length<1000)(hn:p8 p=true) :
  aM C [Wo C a l b s r p,e.d]=some (.non,Wo C a l b (gone b s e) (r+ve b s e) (p++[sd s e r])):=by
 have s1:uv (n5 (i8 cN (i4 (v9 (tK C (oS "book")) (i5 0)) (i4 (v9 (tK C (oS "present")) (i5 0)) (i4 (i5 1) i7)))) (setAt 2)) [a,l] [some (Wo C a l b s r p),some e.d,none,none]=some (.nx [some (Wo C a l b s r p),some e.d,some (gone b s e).d,none]):=by
  show(n5 _ _ _).bind _=_
  rw[o7 (k7 (n9 (Cg rfl Gd) (n9 (Cg rfl BN) (n9 rfl rfl))) (lC ok w e)) rfl];rfl
 have s2:uv (n5 (k6 p6 (v9 (tK C (oS "rung")) (i5 0)) (i8 cj (i4 (v9 (tK C (oS "book")) (i5 0)) (i4 (v9 (tK C (oS "present")) (i5 0)) (i4 (i5 1) i7))))) (setAt 3)) [a,l] [some (Wo C a l b s r p),some e.d,some (gone b s e).d,none]=some (.nx [some (Wo C a l b s r p),some e.d,some (gone b s e).d,some (.int (r+ve b s e))]):=by
  show(n5 _ _ _).bind _=_
  rw[o7 (l5 (Cg rfl D5) (k7 (n9 (Cg rfl Gd) (n9 (Cg rfl BN) (n9 rfl rfl))) (kT ok w e h)) rfl) rfl];rfl
 have nb:∀x y:OD,AT x=true->AT y=true->∀ob:D,rS 0 [some ob,some e.d,x,y]=true:=fun x y hx hy ob=>by
  show(true&&(qU e.d&&(AT x&&(AT y&&true))))=true
  rw[dh,hx,hy];rfl
 have s3:=IL (C:=C) (a:=a) (l:=l) (b:=b) (s:=s) (r:=r) (p:=p) (ρ:=[some e.d,some (gone b s e).d,some (.int (r+ve b s e))]) (f:=n8 (i4 (i5 1) (i4 (v9 (tK C (oS "present")) (i5 0)) (i4 (v9 (tK C (oS "rung")) (i5 0)) i7)))) (d:=sd s e r) hn hp (iq s e r) (nb (some (gone b s e).d) (some (.int (r+ve b s e))) (dk _) rfl _) (tupS (n9 rfl (n9 (Cg rfl BN) (n9 (Cg rfl D5) rfl))))
 have hn':p8 (p++[sd s e r])=true:=by
  have:∀q:LD,p8 q=true->p8 (q++[sd s e r])=true:=fun q=>by
   induction q with
   | nil=>intro _;show(qU _&&true)=true;rw[iq];rfl
   | cons x q ih =>
    intro h
    have h':(qU x&&p8 q)=true:=h
    rw[Mp] at h'
    show(qU x&&p8 (q++_))=true
    rw[h'.1,ih h'.2];rfl
  exact this p hn
 have s4:=IT (C:=C) (a:=a) (l:=l) (b:=b) (s:=s) (s':=gone b s e) (r:=r) (p:=p++[sd s e r]) (ρ:=[some e.d,some (gone b s e).d,some (.int (r+ve b s e))]) (f:=i5 2) hn' (nb (some (gone b s e).d) (some (.int (r+ve b s e))) (dk _) rfl _) rfl
 have s5:=JF (C:=C) (a:=a) (l:=l) (b:=b) (s:=gone b s e) (r:=r) (r':=r+ve b s e) (p:=p++[sd s e r]) (ρ:=[some e.d,some (gone b s e).d,some (.int (r+ve b s e))]) (f:=i5 3) hn' (nb (some (gone b s e).d) (some (.int (r+ve b s e))) (dk _) rfl _) rfl
 have g:cO C [a,l] [some (Wo C a l b s r p),some e.d,none,none]=some (.nx [some (Wo C a l b (gone b s e) (r+ve b s e) (p++[sd s e r])),some e.d,some (gone b s e).d,some (.int (r+ve b s e))]):=by
  show(uv _ [a,l] _).bind _=_
  rw[s1,Mn]
  show(uv _ [a,l] _).bind _=_
  rw[s2,Mn]
  show(FD _ _ _ _ [a,l] _).bind _=_
  rw[s3,Mn]
  show(vU _ _ _ _ [a,l] _).bind _=_
  rw[s4,Mn]
  exact s5
 show(cO C [a,l] [some (Wo C a l b s r p),some e.d,none,none]).bind _=_
 rw[g,Mn]
 exact Mo ⟨rfl,rfl⟩
theorem yR{C a l:Nat}{b:Bk}{s:WS}{r:Int}{p:LD}{mn:Str}{G:LD->Me (D×D)}{F:R->Me LD}{ρ:R}{ds:LD}{d ob':D}(h1:F (some (Wo C a l b s r p)::ρ)=some ds)(h2:G (Wo C a l b s r p::ds)=some (d,ob'))(h3:[oS "book",oS "present",oS "rung",oS "past"].contains mn=false)(h4:rS 0 (some (Wo C a l b s r p)::ρ)=true) :
  ui 0 C mn G F [a,l] (some (Wo C a l b s r p)::ρ)=some (d,some ob'::ρ):=by
 show(F _).bind _=_
 rw[h1,Mn,h2,Mn]
 exact Mo ⟨rfl,h3,h4,wS⟩
def dz(C:Nat):MU:=
 (B7 (ui 0 C (oS "happen") (aM C) (i4 (n8 (i4 (kS "down") (i4 (i5 1) i7))) i7)))
def bg(C:Nat):LD->Me (D×D):=Am 2 2 0 (dz C)
theorem GV{C a l:Nat}{b:Bk}{s:WS}{r:Int}{p:LD}(ok:b.Ok)(w:s.Wk b)(x:ub)(hp:p.length<1000)(hn:p8 p=true) :
  bg C [Wo C a l b s r p,.str x.x]=some (.non,Wo C a l b (gone b s (.down x)) (r+ve b s (.down x)) (p++[sd s (.down x) r])):=by
 have g:dz C [a,l] [some (Wo C a l b s r p),some (.str x.x)]=some (.nx [some (Wo C a l b (gone b s (.down x)) (r+ve b s (.down x)) (p++[sd s (.down x) r])),some (.str x.x)]):=by
  show(ui _ _ _ _ _ [a,l] _).map _=_
  rw[yR (ds:=[(Ev.down x).d]) rfl (Di ok w (.down x) trivial hp hn) (by decide +kernel) rfl];rfl
 show(dz C [a,l] [some (Wo C a l b s r p),some (.str x.x)]).bind _=_
 rw[g,Mn]
 exact Mo ⟨rfl,rfl⟩
def de(C:Nat):MU:=
 (B7 (ui 0 C (oS "happen") (aM C) (i4 (n8 (i4 (kS "ticks") (i4 (i5 1) i7))) i7)))
def bG(C:Nat):LD->Me (D×D):=Am 2 2 0 (de C)
theorem Fw{C a l:Nat}{b:Bk}{s:WS}{r:Int}{p:LD}(ok:b.Ok)(w:s.Wk b){n:Int}(h:1<=n/\n<259200)(hp:p.length<1000)(hn:p8 p=true) :
  bG C [Wo C a l b s r p,.int n]=some (.non,Wo C a l b (gone b s (.ticks n)) (r+ve b s (.ticks n)) (p++[sd s (.ticks n) r])):=by
 have g:de C [a,l] [some (Wo C a l b s r p),some (.int n)]=some (.nx [some (Wo C a l b (gone b s (.ticks n)) (r+ve b s (.ticks n)) (p++[sd s (.ticks n) r])),some (.int n)]):=by
  show(ui _ _ _ _ _ [a,l] _).map _=_
  rw[yR (ds:=[(Ev.ticks n).d]) rfl (Di ok w (.ticks n) h hp hn) (by decide +kernel) rfl];rfl
 show(de C [a,l] [some (Wo C a l b s r p),some (.int n)]).bind _=_
 rw[g,Mn]
 exact Mo ⟨rfl,rfl⟩
def fe(C:Nat):MU:=
 (B7 (ui 0 C (oS "happen") (aM C) (i4 (n8 (i4 (kS "up") (i4 (i5 1) i7))) i7)))
def bK(C:Nat):LD->Me (D×D):=Am 2 2 0 (fe C)
theorem KC{C a l:Nat}{b:Bk}{s:WS}{r:Int}{p:LD}(ok:b.Ok)(w:s.Wk b)(x:ub)(hp:p.length<1000)(hn:p8 p=true) :
  bK C [Wo C a l b s r p,.str x.x]=some (.non,Wo C a l b (gone b s (.up x)) (r+ve b s (.up x)) (p++[sd s (.up x) r])):=by
 have g:fe C [a,l] [some (Wo C a l b s r p),some (.str x.x)]=some (.nx [some (Wo C a l b (gone b s (.up x)) (r+ve b s (.up x)) (p++[sd s (.up x) r])),some (.str x.x)]):=by
  show(ui _ _ _ _ _ [a,l] _).map _=_
  rw[yR (ds:=[(Ev.up x).d]) rfl (Di ok w (.up x) trivial hp hn) (by decide +kernel) rfl];rfl
 show(fe C [a,l] [some (Wo C a l b s r p),some (.str x.x)]).bind _=_
 rw[g,Mn]
 exact Mo ⟨rfl,rfl⟩
def cq(C:Nat):MU:=
  (vW (CF (m6 uV (k6 l4 (i5 1) (kI 0)) (kS "down"))
  (y6 (ui 0 C (oS "down") (bg C) (i4 (k6 l4 (i5 1) (kI 1)) i7)))
  uR)
  (vW (CF (m6 uV (k6 l4 (i5 1) (kI 0)) (kS "up"))
  (y6 (ui 0 C (oS "up") (bK C) (i4 (k6 l4 (i5 1) (kI 1)) i7)))
  uR)
  (y6 (ui 0 C (oS "ticks") (bG C) (i4 (k6 l4 (i5 1) (kI 1)) i7)))))
def bi(C:Nat):LD->Me (D×D):=Am 2 2 0 (cq C)
theorem IV{C a l:Nat}{b:Bk}{s:WS}{r:Int}{p:LD}(ok:b.Ok)(w:s.Wk b)(e:Ev)(h:zl e)(hp:p.length<1000)(hn:p8 p=true) :
  bi C [Wo C a l b s r p,e.d]=some (.non,Wo C a l b (gone b s e) (r+ve b s e) (p++[sd s e r])):=by
 have nb:rS 0 [some (Wo C a l b s r p),some e.d]=true:=by show(true&&(qU e.d&&true))=true;rw[dh];rfl
 have g:cq C [a,l] [some (Wo C a l b s r p),some e.d]=some (.rt .non [some (Wo C a l b (gone b s e) (r+ve b s e) (p++[sd s e r])),some e.d]):=by
  unfold cq
  cases e with
  | down x =>
   show(CF _ _ _ [a,l] _).bind _=_
   have m:=yR (C:=C) (a:=a) (l:=l) (b:=b) (s:=s) (r:=r) (p:=p) (mn:=oS "down") (F:=i4 (k6 l4 (i5 1) (kI 1)) i7) (ρ:=[some (Ev.down x).d]) (ds:=[.str x.x]) (n9 (l5 rfl rfl rfl) rfl) (GV ok w x hp hn) (by decide +kernel) nb
   have q:CF (m6 uV (k6 l4 (i5 1) (kI 0)) (kS "down")) (y6 (ui 0 C (oS "down") (bg C) (i4 (k6 l4 (i5 1) (kI 1)) i7))) uR [a,l] [some (Wo C a l b s r p),some (Ev.down x).d]=some (.rt .non [some (Wo C a l b (gone b s (.down x)) (r+ve b s (.down x)) (p++[sd s (.down x) r])),some (Ev.down x).d]):=by
    show(m6 _ _ _ _).bind _=_
    rw[rj (x:=.str (oS "down")) (y:=.str (oS "down")) (b:=true) (l5 rfl rfl rfl) rfl rfl,Mn,Mo rfl]
    show(ui _ _ _ _ _ _ _).map _=_
    rw[m];rfl
   rw[q];rfl
  | up x =>
   have m:=yR (C:=C) (a:=a) (l:=l) (b:=b) (s:=s) (r:=r) (p:=p) (mn:=oS "up") (F:=i4 (k6 l4 (i5 1) (kI 1)) i7) (ρ:=[some (Ev.up x).d]) (ds:=[.str x.x]) (n9 (l5 rfl rfl rfl) rfl) (KC ok w x hp hn) (by decide +kernel) nb
   have q1:CF (m6 uV (k6 l4 (i5 1) (kI 0)) (kS "down")) (y6 (ui 0 C (oS "down") (bg C) (i4 (k6 l4 (i5 1) (kI 1)) i7))) uR [a,l] [some (Wo C a l b s r p),some (Ev.up x).d]=some (.nx [some (Wo C a l b s r p),some (Ev.up x).d]):=by
    show(m6 _ _ _ _).bind _=_
    rw[rj (x:=.str (oS "up")) (y:=.str (oS "down")) (b:=false) (l5 rfl rfl rfl) rfl rfl];rfl
   have q:CF (m6 uV (k6 l4 (i5 1) (kI 0)) (kS "up")) (y6 (ui 0 C (oS "up") (bK C) (i4 (k6 l4 (i5 1) (kI 1)) i7))) uR [a,l] [some (Wo C a l b s r p),some (Ev.up x).d]=some (.rt .non [some (Wo C a l b (gone b s (.up x)) (r+ve b s (.up x)) (p++[sd s (.up x) r])),some (Ev.up x).d]):=by
    show(m6 _ _ _ _).bind _=_
    rw[rj (x:=.str (oS "up")) (y:=.str (oS "up")) (b:=true) (l5 rfl rfl rfl) rfl rfl,Mn,Mo rfl]
    show(ui _ _ _ _ _ _ _).map _=_
    rw[m];rfl
   show(CF _ _ _ [a,l] _).bind _=_
   rw[q1,Mn]
   show(CF _ _ _ [a,l] _).bind _=_
   rw[q];rfl
  | ticks n =>
   have m:=yR (C:=C) (a:=a) (l:=l) (b:=b) (s:=s) (r:=r) (p:=p) (mn:=oS "ticks") (F:=i4 (k6 l4 (i5 1) (kI 1)) i7) (ρ:=[some (Ev.ticks n).d]) (ds:=[.int n]) (n9 (l5 rfl rfl rfl) rfl) (Fw ok w h hp hn) (by decide +kernel) nb
   have q1:CF (m6 uV (k6 l4 (i5 1) (kI 0)) (kS "down")) (y6 (ui 0 C (oS "down") (bg C) (i4 (k6 l4 (i5 1) (kI 1)) i7))) uR [a,l] [some (Wo C a l b s r p),some (Ev.ticks n).d]=some (.nx [some (Wo C a l b s r p),some (Ev.ticks n).d]):=by
    show(m6 _ _ _ _).bind _=_
    rw[rj (x:=.str (oS "ticks")) (y:=.str (oS "down")) (b:=false) (l5 rfl rfl rfl) rfl rfl];rfl
   have q:CF (m6 uV (k6 l4 (i5 1) (kI 0)) (kS "up")) (y6 (ui 0 C (oS "up") (bK C) (i4 (k6 l4 (i5 1) (kI 1)) i7))) uR [a,l] [some (Wo C a l b s r p),some (Ev.ticks n).d]=some (.nx [some (Wo C a l b s r p),some (Ev.ticks n).d]):=by
    show(m6 _ _ _ _).bind _=_
    rw[rj (x:=.str (oS "ticks")) (y:=.str (oS "up")) (b:=false) (l5 rfl rfl rfl) rfl rfl];rfl
   show(CF _ _ _ [a,l] _).bind _=_
   rw[q1,Mn]
   show(CF _ _ _ [a,l] _).bind _=_
   rw[q,Mn]
   show(ui _ _ _ _ _ _ _).map _=_
   rw[m];rfl
 show(cq C [a,l] [some (Wo C a l b s r p),some e.d]).bind _=_
 rw[g,Mn]
 exact Mo ⟨rfl,rfl⟩
def j5(C:Nat):R->Me Out:=
 (m7 (v9 (tK C (oS "rung")) (i5 0)))
def bS(C:Nat):LD->OD:=via 1 1 (j5 C)
def kC(C:Nat):R->Me Out:=
 (m7 (i8 zx (i4 (Ca 0 C (oS "past") (ym 1 (BX (v9 (tK C (oS "past")) (i5 0))) (setAt 0) uF (k6 l4 (i5 0) (kI 0)))) i7)))
def bN(C:Nat):LD->OD:=via 1 1 (kC C)
def iI(C:Nat):R->Me Out:=
 (m7 (v9 (tK C (oS "present")) (i5 0)))
def bE(C:Nat):LD->OD:=via 1 1 (iI C)
def aN(C:Nat):MU:=
  (vW (vU 0 C (oS "book") (i5 1))
  (vW (vU 0 C (oS "present") (i8 bY (i4 (i5 1) i7)))
  (vW (vU 0 C (oS "rung") (kI 0))
  uR)))
theorem K9(C a l:Nat)(b:Bk):uZ 2 C (oS "past") (aN C) [b.d] a l=some (Wo C a l b p7 0 []):=by
 have n1:=fY b
 have n2:=dk p7
 have hS:zv [a] [a]=true:=by simp[zv]
 have s1:vU 0 C (oS "book") (i5 1) [a] [some (.obj (C+2) a [] []),some b.d]=some (.nx [some (.obj (C+2) a [oS "book"] [b.d]),some b.d]):=Mo ⟨rfl,n1,by show(true&&(qU b.d&&true))=true;rw[n1];rfl,hS,by decide,rfl,rfl⟩
 have s2:vU 0 C (oS "present") (i8 bY (i4 (i5 1) i7)) [a] [some (.obj (C+2) a [oS "book"] [b.d]),some b.d]=some (.nx [some (.obj (C+2) a [oS "book",oS "present"] [b.d,p7.d]),some b.d]):=by
  show(i8 bY _ _).bind _=_
  rw[k7 rfl (jr _),Mn]
  exact Mo ⟨rfl,n2,by show(true&&(qU b.d&&true))=true;rw[n1];rfl,hS,by decide,by show(okN b.d&&true)=true;rw[show okN b.d=qU b.d from rfl,n1];rfl,rfl⟩
 have s3:vU 0 C (oS "rung") (kI 0) [a] [some (.obj (C+2) a [oS "book",oS "present"] [b.d,p7.d]),some b.d]=some (.nx [some (.obj (C+2) a [oS "book",oS "present",oS "rung"] [b.d,p7.d,.int 0]),some b.d]):=
  Mo ⟨rfl,rfl,by show(true&&(qU b.d&&true))=true;rw[n1];rfl,hS,by decide,by show(okN b.d&&(okN p7.d&&true))=true;rw[show okN b.d=qU b.d from rfl,n1];rfl,rfl⟩
 have g:aN C [a] [some (.obj (C+2) a [] []),some b.d]=some (.nx [some (.obj (C+2) a [oS "book",oS "present",oS "rung"] [b.d,p7.d,.int 0]),some b.d]):=by
  show(vU 0 C (oS "book") (i5 1) [a] _).bind _=_
  rw[s1,Mn]
  show(vU 0 C (oS "present") _ [a] _).bind _=_
  rw[s2,Mn]
  show(vU 0 C (oS "rung") _ [a] _).bind _=_
  rw[s3];rfl
 show(aN C [a] [some (.obj (C+2) a [] []),some b.d]).bind _=_
 rw[g,Mn]
 exact Mo ⟨rfl,rfl,by show(qU b.d&&(qU p7.d&&(true&&true)))=true;rw[n1,n2];rfl,by show 3<100;decide⟩
def nj(C:Nat):R->Me Out:=
 (n5 (ym 2 (sk (i8 cX (i4 (i5 9) (i4 (i5 8) i7)))) (AN [(setAt 0),(setAt 1)]) (m6 uV (i5 1) (kS "ring")) (i5 1)) (setAt 10))
def mH(C:Nat):R->Me Out:=
  (vO (AA (m6 Ac (Dp C (oS "state") (bE C) (i5 7) i7) (i8 fN (i4 (i5 9) (i4 (i8 bY (i4 (i5 9) i7)) (i4 (i5 8) i7))))) (m6 Ia (Dp C (oS "rang") (bS C) (i5 7) i7) (i8 wM (i4 (i5 10) i7))))
  (m7 (fun _=>some (.bl false)))
  rg)
def mY(C:Nat):R->Me Out:=
  (vO (m6 Ac (Dp C (oS "row") (bN C) (i5 7) i7) (i5 8))
  (m7 (fun _=>some (.bl false)))
  rg)
def lP(C:Nat):R->Me Out:=(l8 (nj C) (l8 (mH C) (mY C)))
def lU:R->Me Out:=
 (n5 (i8 aX (i4 (i5 0) (i4 (kI 0) i7))) (setAt 1))
def mt:R->Me Out:=
 (n5 (i8 bT (i4 (i8 bP (i4 (i5 1) i7)) (i4 (k6 tm (i8 aH (i4 (i5 1) (i4 (kI 77) i7))) (kI 4)) i7))) (setAt 2))
def mj:R->Me Out:=
 (n5 (n8 (i4 (i5 2) (i4 (i8 bP (i4 (i8 aX (i4 (i5 0) (i4 (kI 1) i7))) i7)) (i4 (i5 2) i7)))) (setAt 3))
def mh:R->Me Out:=
 (n5 (ym 1 (s_ (kI 3)) (setAt 0) uF (i8 bL (i4 (i8 aX (i4 (i5 1) (i4 (k6 p6 (kI 2) (i5 0)) i7))) (i4 (kI 12) i7)))) (setAt 4))
def vI(C:Nat):MU:=
  (y_ (m6 HL (i5 6) (i8 wM (i4 (i5 8) i7))) (As 7 (bi C) (i4 (i5 7) (i4 (k6 l4 (i5 8) (i5 6)) i7))) tP (fun _=>some .non)
  (uv (m7 (fun _=>some (.bl false))))
  uR)
def eD(C:Nat):MU:=(vI C)
def A8(C:Nat):MU:=
 (Gy (xM 5 (i5 4)) (AN [(setAt 7),(setAt 8)]) (BZ 5 7 (eD C)))
def ij(C:Nat):MU:=(A8 C)
def mq(C:Nat):MU:=
 (E_ (s_ (kI 12)) (setAt 6) (ij C))
def mm(C:Nat):MU:=
 (uv (xH (Dy (i5 5) (i5 3) (i5 4)) (AN [(setAt 7),(setAt 9),(setAt 8)]) (lP C)))
def oQ(C:Nat):MU:=
 (uv (m7 (fun _=>some (.bl true))))
def qF(C:Nat):R->Me Out:=
 (l8 lU (l8 mt (l8 mj (l8 mh (yP 9 5 (uZ 2 C (oS "past") (aN C)) (sk (i5 3)) (vW (mq C) (vW (mm C) (oQ C))))))))
def nT(C:Nat):LD->OD:=via 1 11 (qF C)
abbrev Bh:=Ev×WS×Int
def y3(x:Bh):D:=sd x.2.1 x.1 x.2.2
def wJ(P:List Bh):LD:=P.map fun x=>x.1.d
def Wp(C a l:Nat)(b:Bk)(s:WS)(r:Int)(P:List Bh):D:=Wo C a l b s r (P.map y3)
theorem HD(P:List Bh):p8 (P.map y3)=true:=br (fun x=>iq _ _ _) P
theorem Iu(P:List Bh)(x:Bh):P.map y3++[sd x.2.1 x.1 x.2.2]=(P++[x]).map y3:=by rw[Nn];rfl
section
variable{C a l:Nat}{b:Bk}{s:WS}{r:Int}{P:List Bh}{ρ:R}{F:R->OD}{d:D}
theorem Js(hb:rS 0 (some (Wp C a l b s r P)::ρ)=true)(hF:F (some (.obj (C+2) a [oS "book",oS "present",oS "rung",oS "past"] [b.d,s.d,.int r,.fro (P.map y3)])::ρ)=some d)(hd:nof d=true):Ca 0 C (oS "past") F (some (Wp C a l b s r P)::ρ)=some d:=by
 show(if _ then _ else none)=_
 rw[Mo ⟨rfl,hb,HD P,by show(qU b.d&&(qU s.d&&(true&&(true&&true))))=true;rw[fY,dk];rfl⟩]
 show(F (some (.obj (C+2) a [oS "book",oS "present",oS "rung",oS "past"] [b.d,s.d,.int r,.fro (P.map y3)])::ρ)).bind _=_
 rw[hF,Mn,Mo hd]
theorem Jo{q:LD}:tK C (oS "past") (.obj (C+2) a [oS "book",oS "present",oS "rung",oS "past"] [b.d,s.d,.int r,.fro q])=some (.fro q):=by show(if C+2=C+2 then _ else none)=_;rw[Mo rfl];rfl
end
theorem GK(e:Ev):nof e.d=true:=by cases e<;>rfl
theorem BM:∀P:List Bh,nofs (wJ P)=true
 | []=>rfl
 | x::P=>by show(nof x.1.d&&nofs (wJ P))=true;rw[GK,BM P];rfl
theorem kt(ρ:R):∀P:List Bh,rQ (setAt 0) uF (k6 l4 (i5 0) (kI 0)) (P.map y3) (none::ρ)=some (wJ P)
 | []=>rfl
 | x::P=>Av rfl (l5 rfl rfl rfl) (kt ρ P)
section
variable{C a l:Nat}{b:Bk}{s:WS}{r:Int}{P:List Bh}
theorem Jm(hP:P.length<=1000):bN C [Wp C a l b s r P]=some (.tup (wJ P)):=by
 have z:1000<=sizeLine:=by decide
 have hl:ym 1 (BX (v9 (tK C (oS "past")) (i5 0))) (setAt 0) uF (k6 l4 (i5 0) (kI 0)) [some (.obj (C+2) a [oS "book",oS "present",oS "rung",oS "past"] [b.d,s.d,.int r,.fro (P.map y3)])]=some (.lst (wJ P)):=by
  have q:BX (v9 (tK C (oS "past")) (i5 0)) [some (.obj (C+2) a [oS "book",oS "present",oS "rung",oS "past"] [b.d,s.d,.int r,.fro (P.map y3)])]=some (P.map y3):=by
   show(v9 _ _ _).bind _=_
   rw[Cg rfl Jo];rfl
  unfold ym
  rw[q,Mn,Mo (by rw[Ms];omega)]
  exact congrArg (Option.map D.lst) (kt _ P)
 exact l9 (retS (k7 (n9 (Js (ρ:=[]) rfl hl (BM P)) rfl) rfl))
theorem Hx:bS C [Wp C a l b s r P]=some (.int r):=l9 (retS (Cg rfl D5))
theorem E4:bE C [Wp C a l b s r P]=some s.d:=l9 (retS (Cg rfl BN))
theorem GU{m:Str}{G:LD->OD}{ρ:R}{i:Nat}{d:D}(hm:[oS "book",oS "present",oS "rung",oS "past"].contains m=false)(h:i5 i ρ=some (Wp C a l b s r P))(hG:G [Wp C a l b s r P]=some d):Dp C m G (i5 i) i7 ρ=some d:=by
 show(i5 i ρ).bind _=_
 rw[h,Mn]
 show(if C+2=C+2/\_ then G [Wp C a l b s r P] else none)=_
 rw[Mo ⟨rfl,hm⟩,hG]
end
theorem Dw{A:List Nat}{d:D}(h:qU d=true):sepE A d=true:=by
 cases d<;>first | exact h | cases h
theorem yE{A:List Nat}:∀{ds:LD},p8 ds=true->ds.all (sepE A)=true
 | [],_=>rfl
 | d::ds,h=>by
  have h':(qU d&&p8 ds)=true:=h
  rw[Mp] at h'
  rw[Ng,Dw h'.1,yE h'.2];rfl
theorem vt{A:List Nat}{o:OD}(h:AT o=true):vB A o=true:=by
 cases o with
 | none=>rfl
 | some d=>cases d with
  | lst ds=>exact yE h
  | _=>first | exact h | cases h
theorem GN{A:List Nat}{C a l:Nat}{b:Bk}{s:WS}{r:Int}{P:List Bh}(h1:a∉A)(h2:l∉A):vB A (some (Wp C a l b s r P))=true:=by
 show([a,l].all (fun x=>!A.contains x) && [b.d,s.d,.int r,.obj 0 l [] (P.map y3)].all okN)=true
 rw[Kk (HD P),Bool.and_true]
 simp[h1,h2]
theorem qf(e:Ev):rM e.d=true:=by
 cases e with
 | ticks n=>show(rM (.str (oS "ticks"))&&(true&&true))=true;rw[show rM (.str (oS "ticks"))=true by rw[rM];decide +kernel];rfl
 | down x=>show(rM (.str (oS "down"))&&(rM (.str x.x)&&true))=true;rw[gM,show rM (.str (oS "down"))=true by rw[rM];decide +kernel];rfl
 | up x=>show(rM (.str (oS "up"))&&(rM (.str x.x)&&true))=true;rw[gM,show rM (.str (oS "up"))=true by rw[rM];decide +kernel];rfl
theorem lM:∀P:List Bh,tR (wJ P)=true
 | []=>rfl
 | x::P=>by show(rM x.1.d&&tR (wJ P))=true;rw[qf,lM P];rfl
theorem lZ:∀P:List Bh,ud (wJ P)<=1
 | []=>M_ _
 | x::P=>by
  show max (uu x.1.d) (ud (wJ P))<=1
  have h1:uu x.1.d<=1:=by cases x.1<;>exact Mw 1
  have h2:=lZ P
  omega
theorem qm(P:List Bh):Ac (.tup (wJ P)) (.tup (wJ P))=some false:=yX (by show ud _+1<=100;have:=lZ P;omega) (by rw[rM];exact lM P)
def AK(b:Bk):WS->List Ev->Int
 | _,[]=>0
 | s,e::es=>ve b s e+AK b (gone b s e) es
def CA(b:Bk):WS->Int->List Ev->List Bh
 | _,_,[]=>[]
 | s,r,e::es=>(e,s,r)::CA b (gone b s e) (r+ve b s e) es
def We(C a l:Nat)(b:Bk)(es:List Ev):D:=Wp C a l b (rX b p7 es) (AK b p7 es) (CA b p7 0 es)
theorem Bn(b:Bk)(s:WS)(es:List Ev)(e:Ev):rX b s (es++[e])=gone b (rX b s es) e:=CN b s es [e]
theorem AI(b:Bk)(e:Ev):∀(es:List Ev) (s:WS),AK b s (es++[e])=AK b s es+ve b (rX b s es) e
 | [],s=>by show ve b s e+0=0+ve b s e;omega
 | x::es,s=>by
  show ve b s x+AK b (gone b s x) (es++[e])=ve b s x+AK b (gone b s x) es+ve b (rX b (gone b s x) es) e
  rw[AI b e es];omega
theorem zU(b:Bk)(e:Ev):∀(es:List Ev) (s:WS) (r:Int),CA b s r (es++[e])=CA b s r es++[(e,rX b s es,r+AK b s es)]
 | [],s,r=>by show [(e,s,r)]=[(e,s,r+0)];rw[NE]
 | x::es,s,r=>by
  show(x,s,r)::CA b (gone b s x) (r+ve b s x) (es++[e])=(x,s,r)::(CA b (gone b s x) (r+ve b s x) es++[(e,rX b (gone b s x) es,r+(ve b s x+AK b (gone b s x) es))])
  rw[zU b e es,Int.add_assoc]
theorem xu(b:Bk):∀(es:List Ev) (s:WS) (r:Int),wJ (CA b s r es)=es.map Ev.d
 | [],_,_=>rfl
 | e::es,s,r=>congrArg (e.d::·) (xu b es _ _)
theorem BO(b:Bk)(es:List Ev)(s:WS)(r:Int):(CA b s r es).length=es.length:=by
 have:=congrArg List.length (xu b es s r)
 rw[Ms,show(wJ (CA b s r es)).length=(CA b s r es).length from Ms ..] at this
 exact this
theorem I8{e:Ev}(h:e.Lt):zl e:=by
 cases e with
 | ticks n=>exact⟨h.1,by have:n<=130:=h.2;omega⟩
 | _=>trivial
def Jj(es:List Ev):Prop:=(∀e∈es,e.Lt)/\es.length<=100
section
variable{C a l:Nat}{b:Bk}{es:List Ev}
theorem qD(ok:b.Ok)(h:Jj es):(rX b p7 es).Ok b:=AB ok (xS ok) fun e he=>(h.1 e he).1
theorem LN(ok:b.Ok)(h:Jj es){e:Ev}(he:e.Lt):bi C [We C a l b es,e.d]=some (.non,We C a l b (es++[e])):=by
 have q:=IV (C:=C) (a:=a) (l:=l) (r:=AK b p7 es) (p:=(CA b p7 0 es).map y3) ok (qD ok h).toWk e (I8 he) (by rw[Ms,BO];have:=h.2;omega) (HD _)
 unfold We
 rw[zU,AI,Bn,Int.zero_add]
 unfold Wp
 rw[<- Iu]
 exact q
theorem K3(h:Jj es):bN C [We C a l b es]=some (.tup (es.map Ev.d)):=by
 have q:=Jm (C:=C) (a:=a) (l:=l) (b:=b) (s:=rX b p7 es) (r:=AK b p7 es) (P:=CA b p7 0 es) (by rw[BO];have:=h.2;omega)
 rw[xu] at q
 exact q
theorem Hf{A:List Nat}(h1:a∉A)(h2:l∉A):vB A (some (We C a l b es))=true:=GN h1 h2
end
theorem mN{u w:MU}{S:List Nat}{ρ ρ':R}(h:u S ρ=some (.nx ρ')):vW u w S ρ=w S ρ':=by show(u S ρ).bind _=_;rw[h];rfl
theorem mP{p:R->Me Out}{S:List Nat}{ρ ρ':R}(h:p ρ=some (.nx ρ')):uv p S ρ=some (.nx ρ'):=by show(p ρ).bind _=_;rw[h];rfl
theorem LT{p:R->Me Out}{S:List Nat}{ρ:R}{d:D}(h:p ρ=some (.rt d)):uv p S ρ=some (.rt d ρ):=by show(p ρ).bind _=_;rw[h];rfl
theorem Ir{it:R->Me LD}{y3:D->R->Me R}{u:MU}{S:List Nat}{ρ:R}{ds:LD}(h1:it ρ=some ds)(h2:p8 ds=true):E_ it y3 u S ρ=xX y3 u S ds ρ:=by
 unfold E_
 rw[h1,Mn,Mo h2]
theorem xt{y3:D->R->Me R}{u:MU}{S:List Nat}{d:D}{ds:LD}{ρ ρ1 ρ2:R}(h1:y3 d ρ=some ρ1)(h2:u S ρ1=some (.nx ρ2)):xX y3 u S (d::ds) ρ=xX y3 u S ds ρ2:=by
 show(y3 d ρ).bind _=_
 rw[h1,Mn]
 show(u S ρ1).bind _=_
 rw[h2];rfl
section
variable{C a l:Nat}{b:Bk}{j:Nat}{u:MU}{S:List Nat}{T:OD->OD->R}
end
def Gh(e:Ev):Prop:=e.Ok/\yT e
def FG(b:Bk)(s:WS)(k:Int):Ev->List Int
 | .ticks n=>(vT b s n).map (k+·)
 | _=>[]
def Fo(b:Bk):WS->Int->List Ev->List Int
 | _,_,[]=>[]
 | s,k,e::es=>FG b s k e++Fo b (gone b s e) (k+EJ e) es
theorem Ff(b:Bk)(s:WS)(k:Int)(e:Ev):((FG b s k e).length:Int)=ve b s e:=by
 cases e with
 | ticks n=>show(((vT b s n).map _).length:Int)=_;rw[Ms];rfl
 | _=>rfl
def EK(p:Dh):Bool:=decide (p.2=vf)
def tF(l:List Dh):List Int:=(l.filter EK).map (·.1)
theorem Aj(l m:List Dh):tF (l++m)=tF l++tF m:=by unfold tF;rw[List.filter_append,Nn]
theorem u9(k j:Int):∀l:List Int,tF ((AM j l).map fun p=>(k+p.1,p.2))=l.map fun i=>k+(j+i)
 | []=>rfl
 | i::l=>by
  have ih:=u9 k j l
  show tF ((k+(j+i),vf)::(AM j l).map fun p=>(k+p.1,p.2))=_
  unfold tF at ih ⊢
  rw[List.filter_cons,Mo (show EK (k+(j+i),vf)=true from Nc rfl),M9,ih];rfl
theorem Cc{p:Dh}(h:p.2≠vf)(l:List Dh):tF (p::l)=tF l:=by
 unfold tF
 rw[List.filter_cons,Mx (by show ¬ decide _=true;rw[MZ h];decide)]
theorem GW:oS "back" ≠ vf:=by decide +kernel
theorem GQ(x:ub):x.X≠vf:=by cases x<;>decide +kernel
theorem GD(x:ub):x.x≠vf:=by cases x<;>decide +kernel
theorem Hc(s:WS):va s≠vf:=by
 unfold va
 cases s.held with
 | none=>exact GW
 | some p=>exact GQ p.1
theorem DA(b:Bk)(s:WS)(k:Int)(e:Ev):tF ((ED b s e).map fun p=>(k+p.1,p.2))=FG b s k e:=by
 cases e with
 | down x=>rfl
 | up x =>
  show tF ((if CC s x then [((0:Int),x.x)] else []).map _)=[]
  split
  ·exact Cc (GD x) []
  ·rfl
 | ticks n =>
  have z:∀l:List Int,(l.map fun i=>k+(0+i))=l.map (k+·):=fun l=>List.map_congr_left fun i _=>by rw[Int.zero_add]
  show tF ((Ad b s n).map _)=(vT b s n).map (k+·)
  unfold Ad vT
  cases ht:qK b s with
  | none=>dsimp only;rw[u9,z]
  | some t =>
   dsimp only
   split
   ·rw[u9,z]
   ·rw[Nn,M9,Aj,Cc (p:=(k+t,va s)) (Hc s),u9,u9,z,Nn,List.map_map];rfl
theorem yJ(b:Bk):∀(es:List Ev) (s:WS) (k:Int),tF (AE b s k es)=Fo b s k es
 | [],_,_=>rfl
 | e::es,s,k=>by
  show tF (_++_)=_
  rw[Aj,DA,yJ b es];rfl
theorem B9{st:D->R->Me R}{c:R->Me Bool}{e:R->OD}{ρ ρ1:R}{d x:D}{ds xs:LD}{b:Bool}(h1:st d ρ=some ρ1)(hc:c ρ1=some b)(h2:e ρ1=some x)(h3:rQ st c e ds ρ=some xs):rQ st c e (d::ds) ρ=some (if b then x::xs else xs):=by cases b<;>simp[rQ,h1,hc,h2,h3]
theorem Dj(b:Bk):∀(es:List Ev) (s:WS) (k:Int),(∀e∈es,Gh e)->(AE b s k es).length<=9*es.length
 | [],_,_,_=>Mw _
 | e::es,s,k,h=>by
  have h1:=zA b s (h e (.head _)).2
  have h2:=Dj b es (gone b s e) (k+EJ e) fun x hx=>h x (.tail _ hx)
  show((ED b s e).map (fun p=>(k+p.1,p.2))++AE b (gone b s e) (k+EJ e) es).length<=_
  rw[MP,Ms,Nd];omega
theorem Eg(b:Bk):∀(es:List Ev) (s:WS) (k:Int),((Fo b s k es).length:Int)=AK b s es
 | [],_,_=>rfl
 | e::es,s,k=>by
  show((FG b s k e++Fo b (gone b s e) (k+EJ e) es).length:Int)=ve b s e+AK b (gone b s e) es
  rw[MP,Int.natCast_add,Ff,Eg b es]
theorem Ei{e:Ev}(h:e.Lt):Gh e:=by
 cases e with
 | ticks n=>exact⟨h.1,h.1,by have:n<=130:=h.2;omega⟩
 | _=>exact⟨trivial,trivial⟩
theorem lY(r:R):∀l:List Dh,rQ (AN [setAt 0,setAt 1]) (m6 uV (i5 1) (kS "ring")) (i5 1) (l.map sD) (none::none::r)=some ((l.filter EK).map fun p=>.str p.2)
 | []=>rfl
 | p::l=>by
  have ih:=lY r l
  have e:uV (.str p.2) (.str (oS "ring"))=some (EK p):=by
   show some (p.2==vf)=some (decide _)
   by_cases h:p.2=vf
   ·rw[Nc h,h,beq_self_eq_true]
   ·rw[MZ h,M8.mpr h]
  have c:m6 uV (i5 1) (kS "ring") (some (.int p.1)::some (.str p.2)::r)=some (EK p):=rj (x:=.str p.2) rfl rfl e
  refine(B9 (d:=sD p) (ρ1:=some (.int p.1)::some (.str p.2)::r) rfl c (x:=.str p.2) rfl ih).trans ?_
  rw[List.filter_cons]
  cases EK p<;>rfl
abbrev wz(Sc num one bs rs ws:D)(k w r o9 o10:OD):R:=[some Sc,some num,some one,some bs,some rs,some ws,k,w,r,o9,o10]
section
variable{C:Nat}{S:List Nat}{Sc num one bs rs:D}{k w r o9 o10:OD}
theorem A3{u:MU}{obs:LD}{n a:Nat}{ob ob':D}(h1:(obs.findIdx? fun o=>tU o&&sR o==a)=some n)(h2:obs[n]?=some ob)(h3:u S (wz Sc num one bs rs (.lst (obs.set n (.rf a))) k (some ob) r o9 o10)=some (.nx (wz Sc num one bs rs (.lst (obs.set n (.rf a))) k (some ob') r o9 o10)))(h4:tU ob'=true)(h5:sR ob'=a) :
  BZ 5 7 u S (wz Sc num one bs rs (.lst obs) k (some (.rf a)) r o9 o10)=some (.nx (wz Sc num one bs rs (.lst (obs.set n ob')) k none r o9 o10)):=by
 have hn:n<obs.length:=(MG.mp h2).1
 show(Option.bind (obs.findIdx? _) _)=_
 rw[h1,Mn,h2]
 show(u S (wz Sc num one bs rs (.lst (obs.set n (.rf a))) k (some ob) r o9 o10)).bind _=_
 rw[h3,Mn]
 show(if (5:Nat)≠7/\tU ob'=true/\sR ob'=a/\G0 a (obs.set n (.rf a))[n]?=true then some (MO.nx (wz Sc num one bs rs (.lst ((obs.set n (.rf a)).set n ob')) k none r o9 o10)) else none)=_
 rw[Mo ⟨by decide,h4,h5,by rw[Na hn];show(a==a)=true;simp⟩,List.set_set]
theorem AS{a l:Nat}{b:Bk}{es:List Ev}{ws:D}{i:Nat}(hp:[Sc,num,one,bs,rs].all qU=true)(hw:vB [a,l] (some ws)=true)(i2:zv S [a,l]=true)(ok:b.Ok)(h:∀e∈es,e.Lt)(hl:es.length<=12) :
  eD C S (wz Sc num one bs rs ws (some (.int i)) (some (We C a l b (es.take i))) (some (.tup (es.map Ev.d))) none none)=some (.nx (wz Sc num one bs rs ws (some (.int i)) (some (We C a l b (es.take (i+1)))) (some (.tup (es.map Ev.d))) none none)):=by
 have hc:m6 HL (i5 6) (i8 wM (i4 (i5 8) i7)) (wz Sc num one bs rs ws (some (.int i)) (some (We C a l b (es.take i))) (some (.tup (es.map Ev.d))) none none)=some (decide (i<es.length)):=
  rj (x:=.int i) (y:=.int es.length) rfl (k7 (n9 rfl rfl) (by show some (D.int ((es.map Ev.d).length:Int))=_;rw[Ms])) (by
   show some (decide ((i:Int)<es.length))=_
   by_cases hi:i<es.length
   ·rw[Nc hi,Nc (by omega)]
   ·rw[MZ hi,MZ (by omega)])
 unfold eD vI y_
 rw[hc,Mn]
 by_cases hi:i<es.length
 ·rw[Mo (Nc hi)]
  have hx:k6 l4 (i5 8) (i5 6) (wz Sc num one bs rs ws (some (.int i)) (some (We C a l b (es.take i))) (some (.tup (es.map Ev.d))) none none)=some (es[i]).d:=l5 (x:=.tup (es.map Ev.d)) (y:=.int i) rfl rfl (by
   show Cj _ _=_
   unfold Cj Ig
   rw[Mo (by omega),Mo (by rw[Ms];omega),Mn,show((i:Int)).toNat=i by omega,Nb,List.getElem?_eq_getElem hi];rfl)
  have et:es.take (i+1)=es.take i++[es[i]]:=by rw[List.take_add_one,List.getElem?_eq_getElem hi];rfl
  have hf:Jj (es.take i):=⟨fun e he=>h e (List.mem_of_mem_take he),by rw[NB];omega⟩
  have c:As 7 (bi C) (i4 (i5 7) (i4 (k6 l4 (i5 8) (i5 6)) i7)) S (wz Sc num one bs rs ws (some (.int i)) (some (We C a l b (es.take i))) (some (.tup (es.map Ev.d))) none none)=some (.non,wz Sc num one bs rs ws (some (.int i)) (some (We C a l b (es.take (i+1)))) (some (.tup (es.map Ev.d))) none none):=by
   unfold As
   show(i4 _ _ _).bind _=_
   rw[n9 (d:=We C a l b (es.take i)) rfl (n9 hx rfl),Mn,LN ok hf (h _ (List.getElem_mem hi)),Mn,<- et]
   refine Mo ⟨rfl,?_,i2⟩
   have hp':(qU Sc&&(qU num&&(qU one&&(qU bs&&(qU rs&&true)))))=true:=hp
   simp only[Mp] at hp'
   obtain⟨p1,p2,p3,p4,p5,_⟩:=hp'
   show(vB [a,l] (some Sc)&&(vB [a,l] (some num)&&(vB [a,l] (some one)&&(vB [a,l] (some bs)&&(vB [a,l] (some rs)&&(vB [a,l] (some ws)&&(true&&(true&&(vB [a,l] (some (.tup (es.map Ev.d)))&&(true&&(true&&true)))))))))))=true
   rw[vt (o:=some Sc) p1,vt (o:=some num) p2,vt (o:=some one) p3,vt (o:=some bs) p4,vt (o:=some rs) p5,hw,vt (o:=some (.tup (es.map Ev.d))) (br dh es)];rfl
  rw[c];rfl
 ·rw[Mx (by rw[MZ hi];decide)]
  rw[List.take_of_length_le (show es.length<=i by omega),List.take_of_length_le (show es.length<=i+1 by omega)];rfl
theorem LJ{p:D->Bool}{x y z:D}(h:p x=true):[x,y,z].findIdx? p=some 0:=by simp[List.findIdx?_cons,h]
theorem L1{p:D->Bool}{x y z:D}(h:p x=false)(h2:p y=true):[x,y,z].findIdx? p=some 1:=by simp[List.findIdx?_cons,h,h2]
theorem LU{p:D->Bool}{x y z:D}(h:p x=false)(h2:p y=false)(h3:p z=true):[x,y,z].findIdx? p=some 2:=by simp[List.findIdx?_cons,h,h2,h3]
theorem K4{C a l:Nat}{b:Bk}{es:List Ev}:(tU (We C a l b es)&&sR (We C a l b es)==a)=true:=by show(true&&a==a)=true;simp
theorem KZ{C a l a':Nat}{b:Bk}{es:List Ev}(h:a≠a'):(tU (We C a l b es)&&sR (We C a l b es)==a')=false:=by show(true&&a==a')=false;simp[h]
theorem Dk{A:List Nat}{x y z:D}(h1:sepE A x=true)(h2:sepE A y=true)(h3:sepE A z=true):vB A (some (.lst [x,y,z]))=true:=by show(sepE A x&&(sepE A y&&(sepE A z&&true)))=true;rw[h1,h2,h3];rfl
variable{a1 l1 a2 l2 a3 l3:Nat}{b1 b2:Bk}{es1 es2 es3:List Ev}
def Ws(C a1 l1 a2 l2 a3 l3:Nat)(b1 b2:Bk)(es1 es2 es3:List Ev)(i j k:Nat):D:=.lst [We C a1 l1 b1 (es1.take i),We C a2 l2 b2 (es2.take j),We C a3 l3 b1 (es3.take k)]
def Rs(es1 es2 es3:List Ev):D:=.lst [.tup (es1.map Ev.d),.tup (es2.map Ev.d),.tup (es3.map Ev.d)]
theorem Hi{i:Nat}(nd:[a1,l1,a2,l2,a3,l3].Nodup)(hp:[Sc,num,one,bs,Rs es1 es2 es3].all qU=true)(ok1:b1.Ok)(ok2:b2.Ok)(h1:∀e∈es1,e.Lt)(h2:∀e∈es2,e.Lt)(h3:∀e∈es3,e.Lt)(m1:es1.length<=12)(m2:es2.length<=12)(m3:es3.length<=12) :
  ij C [a1,l1,a2,l2,a3,l3] (wz Sc num one bs (Rs es1 es2 es3) (Ws C a1 l1 a2 l2 a3 l3 b1 b2 es1 es2 es3 i i i) (some (.int i)) w r none none) =
   some (.nx (wz Sc num one bs (Rs es1 es2 es3) (Ws C a1 l1 a2 l2 a3 l3 b1 b2 es1 es2 es3 (i+1) (i+1) (i+1)) (some (.int i)) none (some (.tup (es3.map Ev.d))) none none)):=by
 simp only[List.nodup_cons,Mu,List.not_mem_nil,or_false,not_or] at nd
 obtain⟨⟨q1,q2,q3,q4,q5⟩,⟨r1,r2,r3,r4⟩,⟨t1,t2,t3⟩,⟨u1,u2⟩,v1,_⟩:=nd
 have nin:∀{x y a l:Nat},x≠a->x≠l->y≠a->y≠l->∀(b:Bk) (es:List Ev),sepE [a,l] (We C x y b es)=true:=fun {x y a l} h1 h2 h3 h4 b es=>show vB [a,l] (some (We C x y b es))=true from Hf (fun z=>by simp at z;rcases z with z | z<;>contradiction) (fun z=>by simp at z;rcases z with z | z<;>contradiction)
 have e:xM 5 (i5 4) (wz Sc num one bs (Rs es1 es2 es3) (Ws C a1 l1 a2 l2 a3 l3 b1 b2 es1 es2 es3 i i i) (some (.int i)) w r none none)=some [.tup [.rf a1,.tup (es1.map Ev.d)],.tup [.rf a2,.tup (es2.map Ev.d)],.tup [.rf a3,.tup (es3.map Ev.d)]]:=
  Mo ⟨rfl,by show(qU (.tup (es1.map Ev.d))&&(qU (.tup (es2.map Ev.d))&&(qU (.tup (es3.map Ev.d))&&true)))=true;rw[show qU (.tup (es1.map Ev.d))=true from br dh es1,show qU (.tup (es2.map Ev.d))=true from br dh es2,show qU (.tup (es3.map Ev.d))=true from br dh es3];rfl,rfl⟩
 show(xM 5 (i5 4) _).bind _=_
 rw[e,Mn]
 refine(xt (ρ1:=wz Sc num one bs (Rs es1 es2 es3) (Ws C a1 l1 a2 l2 a3 l3 b1 b2 es1 es2 es3 i i i) (some (.int i)) (some (.rf a1)) (some (.tup (es1.map Ev.d))) none none) rfl (A3 (n:=0) (LJ K4) rfl (AS hp (Dk rfl (nin (Ne.symm q2) (Ne.symm r1) (Ne.symm q3) (Ne.symm r2) _ _) (nin (Ne.symm q4) (Ne.symm r3) (Ne.symm q5) (Ne.symm r4) _ _)) (by simp[zv]) ok1 h1 m1) rfl rfl)).trans ?_
 refine(xt (ρ1:=wz Sc num one bs (Rs es1 es2 es3) (Ws C a1 l1 a2 l2 a3 l3 b1 b2 es1 es2 es3 (i+1) i i) (some (.int i)) (some (.rf a2)) (some (.tup (es2.map Ev.d))) none none) rfl (A3 (n:=1) (L1 (KZ q2) K4) rfl (AS hp (Dk (nin q2 q3 r1 r2 _ _) rfl (nin (Ne.symm t2) (Ne.symm u1) (Ne.symm t3) (Ne.symm u2) _ _)) (by simp[zv]) ok2 h2 m2) rfl rfl)).trans ?_
 exact xt (ρ1:=wz Sc num one bs (Rs es1 es2 es3) (Ws C a1 l1 a2 l2 a3 l3 b1 b2 es1 es2 es3 (i+1) (i+1) i) (some (.int i)) (some (.rf a3)) (some (.tup (es3.map Ev.d))) none none) rfl (A3 (n:=2) (LU (KZ q4) (KZ t2) K4) rfl (AS hp (Dk (nin q4 q5 r3 r4 _ _) (nin t2 t3 u1 u2 _ _) rfl) (by simp[zv]) ok1 h3 m3) rfl rfl)
theorem DC(nd:[a1,l1,a2,l2,a3,l3].Nodup)(hp:[Sc,num,one,bs,Rs es1 es2 es3].all qU=true)(ok1:b1.Ok)(ok2:b2.Ok)(h1:∀e∈es1,e.Lt)(h2:∀e∈es2,e.Lt)(h3:∀e∈es3,e.Lt)(m1:es1.length<=12)(m2:es2.length<=12)(m3:es3.length<=12):∀(n i:Nat) (k w r:OD),
  ∃k' r',xX (setAt 6) (ij C) [a1,l1,a2,l2,a3,l3] ((List.range' i n).map fun j=>.int (j:Nat)) (wz Sc num one bs (Rs es1 es2 es3) (Ws C a1 l1 a2 l2 a3 l3 b1 b2 es1 es2 es3 i i i) k none r none none)=some (.nx (wz Sc num one bs (Rs es1 es2 es3) (Ws C a1 l1 a2 l2 a3 l3 b1 b2 es1 es2 es3 (i+n) (i+n) (i+n)) k' none r' none none))
 | 0,i,k,w,r=>⟨k,r,rfl⟩
 | n+1,i,k,w,r=>by
  obtain⟨k',r',ih⟩:=DC nd hp ok1 ok2 h1 h2 h3 m1 m2 m3 n (i+1) (some (.int i)) none (some (.tup (es3.map Ev.d)))
  refine⟨k',r',?_⟩
  rw[List.range'_succ,M9]
  refine(xt (ρ1:=wz Sc num one bs (Rs es1 es2 es3) (Ws C a1 l1 a2 l2 a3 l3 b1 b2 es1 es2 es3 i i i) (some (.int i)) none r none none) rfl (Hi nd hp ok1 ok2 h1 h2 h3 m1 m2 m3)).trans (ih.trans ?_)
  rw[show i+1+n=i+(n+1) by omega]
theorem Dn{a l:Nat}{b:Bk}{es:List Ev}{ws:D}(ok:b.Ok)(h:∀e∈es,e.Lt)(hl:es.length<=12):∃x,lP C (wz Sc num one bs rs ws k (some (We C a l b es)) (some (.tup (es.map Ev.d))) (some b.d) o10)=some (.nx (wz Sc num one bs rs ws k (some (We C a l b es)) (some (.tup (es.map Ev.d))) (some b.d) (some x))):=by
 have hf:Jj es:=⟨h,by omega⟩
 have ea:=oO ok (xS ok) es fun e he=>(h e he).1
 have es':=oU ok es (fun e he=>Ei (h e he)) hf.2
 have hs:=Dj b es p7 0 fun e he=>Ei (h e he)
 have ho:=congrArg List.length (yJ b es p7 0)
 have hg:=Eg b es p7 0
 generalize hst:AE b p7 0 es=st at *
 have z:1000<=sizeLine:=by decide
 have q:sk (i8 cX (i4 (i5 9) (i4 (i5 8) i7))) (wz Sc num one bs rs ws k (some (We C a l b es)) (some (.tup (es.map Ev.d))) (some b.d) o10)=some (st.map sD):=by
  show(i8 cX _ _).bind _=_
  rw[k7 rfl es'];rfl
 have lc:ym 2 (sk (i8 cX (i4 (i5 9) (i4 (i5 8) i7)))) (AN [setAt 0,setAt 1]) (m6 uV (i5 1) (kS "ring")) (i5 1) (wz Sc num one bs rs ws k (some (We C a l b es)) (some (.tup (es.map Ev.d))) (some b.d) o10)=some (.lst ((st.filter EK).map fun p=>.str p.2)):=by
  unfold ym
  rw[q,Mn,Mo (by rw[Ms];have:=hf.2;omega)]
  exact congrArg (Option.map D.lst) (lY _ st)
 have hlen:((((st.filter EK).map fun p=>D.str p.2).length:Nat):Int)=AK b p7 es:=by
  rw[Ms,<- hg,<- ho]
  unfold tF
  rw[Ms]
 refine⟨.lst ((st.filter EK).map fun p=>.str p.2),(l6 (o7 lc rfl)).trans ((l6 ((vF (J4 (rj (GU (m:=oS "state") (by decide +kernel) rfl E4) (k7 (n9 rfl (n9 (k7 rfl (jr _)) (n9 rfl rfl))) ea) (Jt _)) (rj (F:=Ia) (x:=.int (AK b p7 es)) (y:=.int (((st.filter EK).map fun p=>D.str p.2).length:Nat)) (GU (m:=oS "rang") (by decide +kernel) rfl Hx) (k7 (n9 rfl rfl) rfl) (by rw[hlen];show some (!(AK b p7 es==AK b p7 es))=_;simp)))).trans rfl)).trans ((vF (rj (GU (m:=oS "row") (by decide +kernel) rfl (K3 hf)) rfl (by have:=qm (CA b p7 0 es);rw[xu] at this;exact this))).trans rfl))⟩
end
theorem EM(C:Nat)(ns:List Int):nT C [.fro (ns.map .int)]=some (.bl true):=by
 obtain⟨n0,e0,_⟩:=tV ns 0 (by decide)
 obtain⟨n1,e1,_⟩:=tV ns 1 (by decide)
 obtain⟨n2,e2,_⟩:=tV ns 2 (by decide)
 obtain⟨n3,e3,_⟩:=tV ns 3 (by decide)
 obtain⟨n4,e4,_⟩:=tV ns 4 (by decide)
 obtain⟨bd,eb,hb,_⟩:=i_ n0
 obtain⟨b0,rfl,ok0⟩:=lN hb
 obtain⟨bd2,eb2,hb2,_⟩:=i_ n1
 obtain⟨b2,rfl,ok2⟩:=lN hb2
 obtain⟨es1,er1,h1,m1⟩:=gY n2 12 (by decide) (by decide)
 obtain⟨es2,er2,h2,m2⟩:=gY n3 12 (by decide) (by decide)
 obtain⟨es3,er3,h3,m3⟩:=gY n4 12 (by decide) (by decide)
 have hS:qU (.fro (ns.map D.int))=true:=br (fun _=>rfl) ns
 generalize hSc:D.fro (ns.map .int)=Sc at *
 have ok1:=D2 ok0 (uj n0 77 / 4)
 have ey:=pr ok0 (uj n0 77 / 4)
 generalize xC b0 (uj n0 77 / 4)=b1 at *
 have s1:lU (xk 11 [Sc])=some (.nx (xk 11 [Sc,.int n0])):=o7 (k7 rfl e0) rfl
 have s2:mt (xk 11 [Sc,.int n0])=some (.nx (xk 11 [Sc,.int n0,b1.d])):=o7 (k7 (n9 (k7 rfl eb) (n9 (l5 (k7 rfl (uI n0 77)) rfl rfl) rfl)) ey) rfl
 have s3:mj (xk 11 [Sc,.int n0,b1.d])=some (.nx (xk 11 [Sc,.int n0,b1.d,.tup [b1.d,b2.d,b1.d]])):=o7 (tupS (n9 rfl (n9 (k7 (n9 (k7 rfl e1) rfl) eb2) (n9 rfl rfl)))) rfl
 have s4:mh (xk 11 [Sc,.int n0,b1.d,.tup [b1.d,b2.d,b1.d]])=some (.nx (xk 11 [Sc,.int n0,b1.d,.tup [b1.d,b2.d,b1.d],Rs es1 es2 es3])):=by
  refine o7 (d:=Rs es1 es2 es3) ?_ rfl
  have one:∀(i:Int) (n:Int) (es:List Ev) (ρ:R),aX [Sc,.int (2+i)]=some (.int n)->bL [.int n,.int 12]=some (.tup (es.map Ev.d))->i8 bL (i4 (i8 aX (i4 (i5 1) (i4 (k6 p6 (kI 2) (i5 0)) i7))) (i4 (kI 12) i7)) (some (.int i)::some Sc::ρ)=some (.tup (es.map Ev.d)):=fun i n es ρ h h'=>k7 (n9 (k7 (n9 rfl (n9 (l5 rfl rfl rfl) rfl)) h) (n9 rfl rfl)) h'
  unfold ym
  rw[show s_ (kI 3) (xk 11 [Sc,.int n0,b1.d,.tup [b1.d,b2.d,b1.d]])=some [.int 0,.int 1,.int 2] from rfl,Mn,Mo (by decide)]
  refine(congrArg (Option.map D.lst) (show _=some [.tup (es1.map Ev.d),.tup (es2.map Ev.d),.tup (es3.map Ev.d)] from ?_)).trans rfl
  refine(B9 rfl (b:=true) rfl (one 0 n2 es1 _ e2 er1) (B9 rfl (b:=true) rfl (one 1 n3 es2 _ e3 er2) (B9 rfl (b:=true) rfl (one 2 n4 es3 _ e4 er3) rfl))).trans rfl
 refine l9 ((l6 s1).trans ((l6 s2).trans ((l6 s3).trans ((l6 s4).trans ?_))))
 have hmk:∀(b:Bk) (a l:Nat),uZ 2 C (oS "past") (aN C) [b.d] a l=some (We C a l b []):=fun b a l=>K9 C a l b
 refine Eo (ds:=[b1.d,b2.d,b1.d]) (r:=.bl true) rfl ⟨by show 5<11;decide,by show 9<11;decide,by decide,by show 3<=1000;decide,fun d hd a l=>?_⟩ fun ps hl nd=>?_
 ·simp only[Mu,List.not_mem_nil,or_false] at hd
  rcases hd with rfl | rfl | rfl<;>rw[hmk]<;>rfl
 match ps,hl,nd with
 | [(a1,l1),(a2,l2),(a3,l3)],_,nd =>
 have nd':[a1,l1,a2,l2,a3,l3].Nodup:=nd
 have hR:qU (Rs es1 es2 es3)=true:=by
  show(qU (.tup (es1.map Ev.d))&&(qU (.tup (es2.map Ev.d))&&(qU (.tup (es3.map Ev.d))&&true)))=true
  rw[show qU (.tup (es1.map Ev.d))=true from br dh es1,show qU (.tup (es2.map Ev.d))=true from br dh es2,show qU (.tup (es3.map Ev.d))=true from br dh es3];rfl
 have hp:[Sc,.int n0,b1.d,.tup [b1.d,b2.d,b1.d],Rs es1 es2 es3].all qU=true:=by
  show(qU Sc&&(true&&(qU b1.d&&((qU b1.d&&(qU b2.d&&(qU b1.d&&true)))&&(qU (Rs es1 es2 es3)&&true)))))=true
  rw[hS,fY,fY,hR];rfl
 obtain⟨k',r',lp⟩:=DC (C:=C) nd' hp ok1 ok2 h1 h2 h3 m1 m2 m3 12 0 none none none
 have t12:∀es:List Ev,es.length<=12->es.take (0+12)=es:=fun es h=>List.take_of_length_le (by omega)
 have eW:Ws C a1 l1 a2 l2 a3 l3 b1 b2 es1 es2 es3 (0+12) (0+12) (0+12)=.lst [We C a1 l1 b1 es1,We C a2 l2 b2 es2,We C a3 l3 b1 es3]:=by unfold Ws;rw[t12 es1 m1,t12 es2 m2,t12 es3 m3]
 rw[eW] at lp
 have s6:mq C [a1,l1,a2,l2,a3,l3] (wz Sc (.int n0) b1.d (.tup [b1.d,b2.d,b1.d]) (Rs es1 es2 es3) (Ws C a1 l1 a2 l2 a3 l3 b1 b2 es1 es2 es3 0 0 0) none none none none none)=some (.nx (wz Sc (.int n0) b1.d (.tup [b1.d,b2.d,b1.d]) (Rs es1 es2 es3) (.lst [We C a1 l1 b1 es1,We C a2 l2 b2 es2,We C a3 l3 b1 es3]) k' none r' none none)):=(Ir (ds:=tH 0 12) rfl rfl).trans lp
 obtain⟨x1,q1⟩:=Dn (C:=C) (Sc:=Sc) (num:=.int n0) (one:=b1.d) (bs:=.tup [b1.d,b2.d,b1.d]) (rs:=Rs es1 es2 es3) (k:=k') (o10:=none) (a:=a1) (l:=l1) (ws:=.lst [We C a1 l1 b1 es1,We C a2 l2 b2 es2,We C a3 l3 b1 es3]) ok1 h1 m1
 obtain⟨x2,q2⟩:=Dn (C:=C) (Sc:=Sc) (num:=.int n0) (one:=b1.d) (bs:=.tup [b1.d,b2.d,b1.d]) (rs:=Rs es1 es2 es3) (k:=k') (o10:=some x1) (a:=a2) (l:=l2) (ws:=.lst [We C a1 l1 b1 es1,We C a2 l2 b2 es2,We C a3 l3 b1 es3]) ok2 h2 m2
 obtain⟨x3,q3⟩:=Dn (C:=C) (Sc:=Sc) (num:=.int n0) (one:=b1.d) (bs:=.tup [b1.d,b2.d,b1.d]) (rs:=Rs es1 es2 es3) (k:=k') (o10:=some x2) (a:=a3) (l:=l3) (ws:=.lst [We C a1 l1 b1 es1,We C a2 l2 b2 es2,We C a3 l3 b1 es3]) ok1 h3 m3
 have s7:mm C [a1,l1,a2,l2,a3,l3] (wz Sc (.int n0) b1.d (.tup [b1.d,b2.d,b1.d]) (Rs es1 es2 es3) (.lst [We C a1 l1 b1 es1,We C a2 l2 b2 es2,We C a3 l3 b1 es3]) k' none r' none none)=some (.nx (wz Sc (.int n0) b1.d (.tup [b1.d,b2.d,b1.d]) (Rs es1 es2 es3) (.lst [We C a1 l1 b1 es1,We C a2 l2 b2 es2,We C a3 l3 b1 es3]) k' (some (We C a3 l3 b1 es3)) (some (.tup (es3.map Ev.d))) (some b1.d) (some x3))):=
  mP (xm (ds:=[.tup [We C a1 l1 b1 es1,b1.d,.tup (es1.map Ev.d)],.tup [We C a2 l2 b2 es2,b2.d,.tup (es2.map Ev.d)],.tup [We C a3 l3 b1 es3,b1.d,.tup (es3.map Ev.d)]]) rfl ((xn rfl q1).trans ((xn rfl q2).trans ((xn rfl q3).trans rfl))))
 refine⟨[We C a1 l1 b1 [],We C a2 l2 b2 [],We C a3 l3 b1 []],_,?_,(mN s6).trans ((mN s7).trans (LT (retS rfl)))⟩
 show(uZ 2 C _ _ [b1.d] a1 l1).bind (fun o=>((uZ 2 C _ _ [b2.d] a2 l2).bind fun o2=>((uZ 2 C _ _ [b1.d] a3 l3).bind fun o3=>(some []).map (o3::·)).map (o2::·)).map (o::·))=_
 rw[hmk,hmk,hmk];rfl
end HW
set_option maxRecDepth 100000
namespace HW
open PySem PySem.Spec PyProof.Rows L2
variable{P:Mv}{w:MH}{K:Mj}{mg:Str->Me Mg}{base:MI}{k:Nat}{f:Ml}{fd:Nl}
def top(i:Nat):ML:=PySem.Challenge.pw_handwatch_k63_whole_watches_side_by_side.main.body.getD i (.Pass ⟨0,0,0,0⟩)
abbrev dL:ML:=top 73
theorem vK:k4 ["_law_number","_law_k","_law_drawn_here"] ["_law_number","_law_k"] (i6 dL):=rW
theorem iS(Fn:rJ K "_law_drawn" "_law_drawn" dL f fd):l7 P w K mg base q8 (k+1) f fd ["_law_number","_law_k"] (rL K aH):=by
 refine aq Fn vK ?_
 intro _ _ _ _ _ _ hr
 refine aj ?_ ?_
 ·refine aA ?_ ?_
  ·refine ao aJ ?_ ae
   refine ao cL ?_ ae
   refine ao aD ?_ ae
   refine ao aD (ad 0) ?_
   exact ao cL ae (ad 1)
  exact ak 2 vK.nd
 refine al ?_
 refine av ?_
 refine ao aJ ?_ ae
 refine ao aD ?_ (ad 1)
 refine ao aD ?_ ?_
 ·exact ao cL (ad 2) (ad 2)
 exact ao cL ae (ad 2)
abbrev eB:ML:=top 74
theorem qJ:k4 ["_law_number","_law_many","_law_deeds","_law_modes","_law_k","_law_drawn_here","_law_rows","_law_j","_law_one","_law_face"] ["_law_number"] (i6 eB):=rW
theorem jm(qO:n6 P w K mg base k "_law_drawn" ["_law_number","_law_k"] aH)(rK:mg "range" = none)(Fn:rJ K "_law_book" "_law_book" eB f fd):l7 P w K mg base q8 (k+1) f fd ["_law_number"] (rL K bP):=by
 refine aq Fn qJ ?_
 intro _ _ _ _ _ _ hr
 refine aj ?_ ?_
 ·refine aA ?_ ?_
  ·refine ao aD ae ?_
   exact ao aJ (ad 0) ae
  exact ak 1 qJ.nd
 refine aj ?_ ?_
 ·refine aA ?_ ?_
  ·refine aw ?_
   refine ac aF ?_
   refine ac aF ?_
   refine ac aF ?_
   refine ac aF ?_
   refine ac aF ?_
   refine ac aF ?_
   refine ac aF ?_
   refine ac aF ?_
   exact ac aF (ac aF (ac aF (ac aF af)))
  exact ak 2 qJ.nd
 refine aj ?_ ?_
 ·refine aA ?_ ?_
  ·exact aw af
  exact ak 3 qJ.nd
 refine aj ?_ ?_
 ·refine lR PassesOwn.never rfl ?_ ?_ ?_
  ·exact gN rK (ad 1)
  ·exact ak 4 qJ.nd
  refine aj ?_ ?_
  ·refine aA ?_ ?_
   ·refine ao bQ ?_ ae
    exact ai qO hr (ac (ad 0) (ac (ad 4) af))
   exact ak 5 qJ.nd
  refine aj ?_ ?_
  ·refine aA ?_ ?_
   ·exact aw af
   exact ak 6 qJ.nd
  refine aj ?_ ?_
  ·refine lR PassesOwn.never rfl ?_ ?_ ?_
   ·exact gN rK ae
   ·exact ak 7 qJ.nd
   refine aj ?_ ?_
   ·refine aA ?_ ?_
    ·refine ao bQ ?_ ae
     refine ai qO hr ?_
     refine ac (ad 5) ?_
     refine ac ?_ af
     exact ao aD ae (ad 7)
    exact ak 8 qJ.nd
   refine al ?_
   refine aA ?_ ?_
   ·refine ao aD (ad 6) ?_
    refine aw ?_
    refine ac ?_ af
    refine aw ?_
    refine ac ?_ ?_
    ·refine ag ?_ ?_
     ·refine ao aD (ad 2) ?_
      exact aw (ac aF af)
     exact ao aJ (ad 8) ae
    refine ac ?_ af
    refine ao aJ ?_ (ad 1)
    exact ao bQ (ad 8) ae
   exact ak 6 qJ.nd
  refine aj ?_ ?_
  ·refine aA ?_ ?_
   ·refine ag ?_ ?_
    ·refine aw ?_
     exact ac aF (ac aF (ac aF (ac aF af)))
    exact ao aJ (ad 5) ae
   exact ak 9 qJ.nd
  refine al ?_
  refine aA ?_ ?_
  ·refine ao aD (ad 3) ?_
   refine aw ?_
   refine ac ?_ af
   refine aw ?_
   refine ac (ad 9) ?_
   refine ac ?_ (ac (ad 6) af)
   refine eC (dv hr) ?_ ae
   refine ao aJ ?_ ae
   exact ao bQ (ad 5) ae
  exact ak 3 qJ.nd
 refine al ?_
 refine av ?_
 refine aw ?_
 refine ac ?_ ?_
 ·refine ao aD ae ?_
  refine ao aJ ?_ ?_
  ·exact ao bQ (ad 0) ae
  refine ag ?_ ?_
  ·exact aw (ac ae (ac ae af))
  refine ao aJ ?_ ae
  exact ao bQ (ad 0) ae
 refine ac ?_ (ac (ad 3) af)
 refine ag ?_ ?_
 ·refine aw ?_
  refine ac ae ?_
  exact ac ae (ac ae (ac ae (ac ae af)))
 refine ao aJ ?_ ae
 exact ao bQ (ad 0) ae
abbrev cV:ML:=top 71
theorem gC:k4 ["_law_script","_law_k"] ["_law_script","_law_k"] (i6 cV):=rW
theorem gz(uA:mg "len" = none)(Fn:rJ K "_law_cell_at" "_law_cell_at" cV f fd):l7 P w K mg base q8 (k+1) f fd ["_law_script","_law_k"] (rL K bC):=by
 refine aq Fn gC ?_
 intro _ _ _ _ _ _ hr
 refine aj ?_ ?_
 ·refine cB ?_ ?_ aV
  ·refine aB kF (ad 1) ?_
   exact bF hX uA (ac (ad 0) af)
  refine al ?_
  exact av (ag (ad 0) (ad 1))
 refine al ?_
 exact av ae
abbrev dC:ML:=top 72
theorem vL:k4 ["_law_script","_law_k","_law_drawn_here"] ["_law_script","_law_k"] (i6 dC):=rW
theorem iG(t6:n6 P w K mg base k "_law_cell_at" ["_law_script","_law_k"] bC)(Fn:rJ K "_law_mixed" "_law_mixed" dC f fd):l7 P w K mg base q8 (k+1) f fd ["_law_script","_law_k"] (rL K aX):=by
 refine aq Fn vL ?_
 intro _ _ _ _ _ _ hr
 refine aj ?_ ?_
 ·refine aA ?_ ?_
  ·refine ao aJ ?_ ae
   refine ao cL ?_ ae
   refine ao aD ?_ ae
   refine ao aD ?_ ?_
   ·exact ai t6 hr (ac (ad 0) (ac (ad 1) af))
   exact ao cL ae (ad 1)
  exact ak 2 vL.nd
 refine al ?_
 refine av ?_
 refine ao aJ ?_ ae
 refine ao aD ?_ (ad 1)
 refine ao aD ?_ ?_
 ·exact ao cL (ad 2) (ad 2)
 exact ao cL ae (ad 2)
abbrev dB:ML:=top 77
theorem uf:k4 ["_law_book_here","_law_number","_law_last","_law_rows"] ["_law_book_here","_law_number"] (i6 dB):=rW
theorem iT(uA:mg "len" = none)(Fn:rJ K "_law_ready" "_law_ready" dB f fd):l7 P w K mg base q8 (k+1) f fd ["_law_book_here","_law_number"] (rL K bT):=by
 refine aq Fn uf ?_
 intro _ _ _ _ _ _ hr
 refine aj ?_ ?_
 ·refine cB ?_ ?_ aV
  ·refine aB (dv hr) ?_ ae
   exact ao aJ (ad 1) ae
  refine al ?_
  exact av (ad 0)
 refine aj ?_ ?_
 ·refine aA ?_ ?_
  ·refine ao aJ ?_ ?_
   ·exact ao bQ (ad 1) ae
   exact bF hX uA (ac (ag (ad 0) ae) af)
  exact ak 2 uf.nd
 refine aj ?_ ?_
 ·refine aA ?_ ?_
  ·refine aw ?_
   refine ac ?_ ?_
   ·exact aw (ac aF (ac ae af))
   refine ac ?_ ?_
   ·exact aw (ac aF (ac (ad 2) af))
   refine ac ?_ ?_
   ·exact aw (ac aF (ac ae af))
   refine ac ?_ ?_
   ·exact aw (ac aF (ac ae af))
   refine ac ?_ ?_
   ·exact aw (ac aF (ac ae af))
   refine ac ?_ af
   exact aw (ac aF (ac (ad 2) af))
  exact ak 3 uf.nd
 refine al ?_
 refine av ?_
 refine aw ?_
 refine ac (ag (ad 0) ae) ?_
 refine ac (ag (ad 0) ae) ?_
 refine ac ?_ af
 refine ao aD ?_ ?_
 ·refine aw ?_
  refine ac ?_ af
  exact aw (ac aF (ac dW (ac (ad 3) af)))
 refine gS (ag (ad 0) ae) ?_ jh
 exact jC ae
abbrev dE:ML:=top 75
theorem ug:k4 ["_law_number","_law_button","_law_kind"] ["_law_number"] (i6 dE):=rW
theorem iV(Fn:rJ K "_law_event" "_law_event" dE f fd):l7 P w K mg base q8 (k+1) f fd ["_law_number"] (rL K bp):=by
 refine aq Fn ug ?_
 intro _ _ _ _ _ _ hr
 refine aj ?_ ?_
 ·refine aA ?_ ?_
  ·refine ag aF ?_
   refine ao aJ ?_ ae
   exact ao bQ (ad 0) ae
  exact ak 1 ug.nd
 refine aj ?_ ?_
 ·refine aA ?_ ?_
  ·exact ao aJ (ad 0) ae
  exact ak 2 ug.nd
 refine aj ?_ ?_
 ·refine cB ?_ ?_ aV
  ·exact aB kF (ad 2) ae
  refine al ?_
  refine av ?_
  exact aw (ac aF (ac (ad 1) af))
 refine aj ?_ ?_
 ·refine cB ?_ ?_ aV
  ·exact aB kF (ad 2) ae
  refine al ?_
  refine av ?_
  exact aw (ac aF (ac (ad 1) af))
 refine al ?_
 refine av ?_
 refine aw ?_
 refine ac aF ?_
 refine ac ?_ af
 refine ao aD ae ?_
 refine ao aJ ?_ ?_
 ·exact ao bQ (ad 0) ae
 refine ag ?_ ?_
 ·exact aw (ac ae (ac ae (ac ae af)))
 refine ao aJ ?_ ae
 exact ao bQ (ad 0) ae
abbrev fj:ML:=top 76
theorem ki:k4 ["_law_number","_law_most"] ["_law_number","_law_most"] (i6 fj):=rW
theorem ke(qO:n6 P w K mg base k "_law_drawn" ["_law_number","_law_k"] aH)(uJ:n6 P w K mg base k "_law_event" ["_law_number"] bp)(rK:mg "range" = none)(tL:mg "tuple" = none)(Fn:rJ K "_law_row" "_law_row" fj f fd):l7 P w K mg base q8 (k+1) f fd ["_law_number","_law_most"] (rL K bL):=by
 refine aq Fn ki ?_
 intro _ _ _ _ _ _ hr
 refine al ?_
 refine av ?_
 refine il gR tL ?_
 refine ac ?_ af
 refine kJ (T:=["_law_k"]) rfl ?_ ?_ ?_ ?_ (r_ (by decide)) (show List.Nodup ((["_law_k"]:List Str)++(["_law_number" ,"_law_most"]:List Str)) from by decide +kernel)
 ·refine gN rK ?_
  refine ao aJ (ad 0) ?_
  exact ao aD (ad 1) ae
 ·intro C s₃ H₃ fp
  exact ak 0 (show List.Nodup (["_law_k" ,"_law_number" ,"_law_most"]:List Str) from by decide +kernel)
 ·intro C s₃ H₃ fp
  exact fR
 intro C s₃ H₃ fp
 refine ai uJ hr ?_
 refine ac ?_ af
 refine ao bQ ?_ ae
 refine ai qO hr ?_
 refine ac (ad 1) ?_
 refine ac ?_ af
 exact ao aD ae (ad 0)
abbrev dD:ML:=top 57
theorem iH:k4 ["state","button"] ["state","button"] (i6 dD):=rW
theorem iO(o8:sj K mg "HELD" aR)(Fn:rJ K "is_holding" "is_holding" dD f fd):l7 P w K mg base q8 (k+1) f fd ["state","button"] (rL K bo):=by
 refine aq Fn iH ?_
 intro _ _ _ _ _ _ hr
 refine al ?_
 refine av ?_
 refine iA ?_ ?_
 ·exact eC bU (ag (ad 0) (au o8)) aO
 refine jS ?_
 exact eC (dv hr) (ag (ag (ad 0) (au o8)) ae) (ad 1)
abbrev fk:ML:=top 58
theorem kN:k4 ["state","button"] ["state","button"] (i6 fk):=rW
theorem kj(rO:n6 P w K mg base k "is_holding" ["state","button"] bo)(o8:sj K mg "HELD" aR)(Fn:rJ K "is_short" "is_short" fk f fd):l7 P w K mg base q8 (k+1) f fd ["state","button"] (rL K bB):=by
 refine aq Fn kN ?_
 intro _ _ _ _ _ _ hr
 refine al ?_
 refine av ?_
 refine iA ?_ ?_
 ·exact ai rO hr (ac (ad 0) (ac (ad 1) af))
 refine jS ?_
 exact eC bU (ag (ag (ad 0) (au o8)) ae) aO
abbrev oh:ML:=top 14
theorem pK:k4 ["state","place","part"] ["state","place","part"] (i6 oh):=rW
theorem qg(Fn:rJ K "put" "put" oh f fd):l7 P w K mg base q8 (k+1) f fd ["state","place","part"] (rL K aG):=by
 refine aq Fn pK ?_
 intro _ _ _ _ _ _ hr
 refine al ?_
 refine av ?_
 refine ao aD ?_ ?_
 ·refine ao aD ?_ ?_
  ·refine gS (ad 0) jh ?_
   exact jC (ad 1)
  exact aw (ac (ad 2) af)
 refine gS (ad 0) ?_ jh
 refine jC ?_
 exact ao aD (ad 1) ae
abbrev cA:ML:=top 20
theorem uy:k4 ["state","alarm"] ["state"] (i6 cA):=rW
theorem ge(o6:n6 P w K mg base k "put" ["state","place","part"] aG)(qY:sj K mg "ALARM" bh)(Fn:rJ K "alarm_hour_on" "alarm_hour_on" cA f fd):l7 P w K mg base q8 (k+1) f fd ["state"] (rL K ba):=by
 refine aq Fn uy ?_
 intro _ _ _ _ _ _ hr
 refine aj ?_ ?_
 ·refine aA (ag (ad 0) (au qY)) ?_
  exact ak 1 uy.nd
 refine al ?_
 refine av ?_
 refine ai o6 hr ?_
 refine ac (ad 0) ?_
 refine ac (au qY) ?_
 refine ac ?_ af
 refine aw ?_
 refine ac ?_ ?_
 ·refine ao aJ ?_ ae
  exact ao aD (ag (ad 1) ae) ae
 exact ac (ag (ad 1) ae) (ac (ag (ad 1) ae) af)
abbrev bX:ML:=top 21
theorem tQ:k4 ["state","alarm"] ["state"] (i6 bX):=rW
theorem e_(o6:n6 P w K mg base k "put" ["state","place","part"] aG)(qY:sj K mg "ALARM" bh)(Fn:rJ K "alarm_minute_on" "alarm_minute_on" bX f fd):l7 P w K mg base q8 (k+1) f fd ["state"] (rL K aT):=by
 refine aq Fn tQ ?_
 intro _ _ _ _ _ _ hr
 refine aj ?_ ?_
 ·refine aA (ag (ad 0) (au qY)) ?_
  exact ak 1 tQ.nd
 refine al ?_
 refine av ?_
 refine ai o6 hr ?_
 refine ac (ad 0) ?_
 refine ac (au qY) ?_
 refine ac ?_ af
 refine aw ?_
 refine ac (ag (ad 1) ae) ?_
 refine ac ?_ (ac (ag (ad 1) ae) af)
 refine ao aJ ?_ ae
 exact ao aD (ag (ad 1) ae) ae
abbrev cM:ML:=top 22
theorem uS:k4 ["state","alarm"] ["state"] (i6 cM):=rW
theorem gB(o6:n6 P w K mg base k "put" ["state","place","part"] aG)(qY:sj K mg "ALARM" bh)(Fn:rJ K "alarm_turned" "alarm_turned" cM f fd):l7 P w K mg base q8 (k+1) f fd ["state"] (rL K bj):=by
 refine aq Fn uS ?_
 intro _ _ _ _ _ _ hr
 refine aj ?_ ?_
 ·refine aA (ag (ad 0) (au qY)) ?_
  exact ak 1 uS.nd
 refine al ?_
 refine av ?_
 refine ai o6 hr ?_
 refine ac (ad 0) ?_
 refine ac (au qY) ?_
 refine ac ?_ af
 refine aw ?_
 refine ac (ag (ad 1) ae) ?_
 refine ac (ag (ad 1) ae) ?_
 refine ac ?_ af
 exact jJ (ag (ad 1) ae)
abbrev iu:ML:=top 25
theorem nr:k4 ["state","minute","second"] ["state","minute","second"] (i6 iu):=rW
theorem mU(o6:n6 P w K mg base k "put" ["state","place","part"] aG)(qL:sj K mg "COUNT" aQ)(Fn:rJ K "set_to" "set_to" iu f fd):l7 P w K mg base q8 (k+1) f fd ["state","minute","second"] (rL K bH):=by
 refine aq Fn nr ?_
 intro _ _ _ _ _ _ hr
 refine aj ?_ ?_
 ·refine cB ?_ ?_ aV
  ·exact dm (ag (ag (ad 0) (au qL)) ae)
  refine al ?_
  exact av (ad 0)
 refine al ?_
 refine av ?_
 refine ai o6 hr ?_
 refine ac (ad 0) ?_
 refine ac (au qL) ?_
 refine ac ?_ af
 refine aw ?_
 refine ac (ad 1) ?_
 refine ac (ad 2) ?_
 refine ac ?_ (ac dW af)
 refine ao aD ?_ (ad 2)
 exact ao cL ae (ad 1)
abbrev bZ:ML:=top 26
theorem tX:k4 ["state","count"] ["state"] (i6 bZ):=rW
theorem eZ(so:n6 P w K mg base k "set_to" ["state","minute","second"] bH)(qL:sj K mg "COUNT" aQ)(Fn:rJ K "count_minute_on" "count_minute_on" bZ f fd):l7 P w K mg base q8 (k+1) f fd ["state"] (rL K aU):=by
 refine aq Fn tX ?_
 intro _ _ _ _ _ _ hr
 refine aj ?_ ?_
 ·refine aA (ag (ad 0) (au qL)) ?_
  exact ak 1 tX.nd
 refine al ?_
 refine av ?_
 refine ai so hr ?_
 refine ac (ad 0) ?_
 refine ac ?_ (ac (ag (ad 1) ae) af)
 refine ao aJ ?_ ae
 exact ao aD (ag (ad 1) ae) ae
abbrev bW:ML:=top 27
theorem tW:k4 ["state","count"] ["state"] (i6 bW):=rW
theorem fm(so:n6 P w K mg base k "set_to" ["state","minute","second"] bH)(qL:sj K mg "COUNT" aQ)(Fn:rJ K "count_second_on" "count_second_on" bW f fd):l7 P w K mg base q8 (k+1) f fd ["state"] (rL K aS):=by
 refine aq Fn tW ?_
 intro _ _ _ _ _ _ hr
 refine aj ?_ ?_
 ·refine aA (ag (ad 0) (au qL)) ?_
  exact ak 1 tW.nd
 refine al ?_
 refine av ?_
 refine ai so hr ?_
 refine ac (ad 0) ?_
 refine ac (ag (ad 1) ae) ?_
 refine ac ?_ af
 refine ao aJ ?_ ae
 exact ao aD (ag (ad 1) ae) ae
abbrev cP:ML:=top 29
theorem tf:k4 ["state","count","runs"] ["state"] (i6 cP):=rW
theorem gA(o6:n6 P w K mg base k "put" ["state","place","part"] aG)(qL:sj K mg "COUNT" aQ)(Fn:rJ K "count_turned" "count_turned" cP f fd):l7 P w K mg base q8 (k+1) f fd ["state"] (rL K bz):=by
 refine aq Fn tf ?_
 intro _ _ _ _ _ _ hr
 refine aj ?_ ?_
 ·refine aA (ag (ad 0) (au qL)) ?_
  exact ak 1 tf.nd
 refine aj ?_ ?_
 ·refine aA ?_ ?_
  ·refine iA ?_ ?_
   ·exact jJ (ag (ad 1) ae)
   refine jS ?_
   exact eC gv (ag (ad 1) ae) ae
  exact ak 2 tf.nd
 refine al ?_
 refine av ?_
 refine ai o6 hr ?_
 refine ac (ad 0) ?_
 refine ac (au qL) ?_
 refine ac ?_ af
 refine aw ?_
 refine ac (ag (ad 1) ae) ?_
 exact ac (ag (ad 1) ae) (ac (ag (ad 1) ae) (ac (ad 2) af))
abbrev gX:ML:=top 28
theorem yW:k4 ["state","count"] ["state"] (i6 gX):=rW
theorem mv(so:n6 P w K mg base k "set_to" ["state","minute","second"] bH)(qL:sj K mg "COUNT" aQ)(Fn:rJ K "filled" "filled" gX f fd):l7 P w K mg base q8 (k+1) f fd ["state"] (rL K dw):=by
 refine aq Fn yW ?_
 intro _ _ _ _ _ _ hr
 refine aj ?_ ?_
 ·refine aA (ag (ad 0) (au qL)) ?_
  exact ak 1 yW.nd
 refine al ?_
 refine av ?_
 refine ai so hr ?_
 refine ac (ad 0) ?_
 exact ac (ag (ad 1) ae) (ac (ag (ad 1) ae) af)
abbrev fS:ML:=top 17
theorem lj:k4 ["state"] ["state"] (i6 fS):=rW
theorem ld(o6:n6 P w K mg base k "put" ["state","place","part"] aG)(qR:sj K mg "CLOCK" a_)(Fn:rJ K "hour_on" "hour_on" fS f fd):l7 P w K mg base q8 (k+1) f fd ["state"] (rL K cH):=by
 refine aq Fn lj ?_
 intro _ _ _ _ _ _ hr
 refine al ?_
 refine av ?_
 refine ai o6 hr ?_
 refine ac (ad 0) ?_
 refine ac (au qR) ?_
 refine ac ?_ af
 refine ao aJ ?_ ae
 exact ao aD (ag (ad 0) (au qR)) ae
abbrev eX:ML:=top 24
theorem xh:k4 ["state","laps"] ["state"] (i6 eX):=rW
theorem kH(o6:n6 P w K mg base k "put" ["state","place","part"] aG)(uA:mg "len" = none)(tq:sj K mg "LAPS" cb)(vj:sj K mg "MOST_KEPT" em)(Fn:rJ K "lap_kept" "lap_kept" eX f fd):l7 P w K mg base q8 (k+1) f fd ["state"] (rL K cQ):=by
 refine aq Fn xh ?_
 intro _ _ _ _ _ _ hr
 refine aj ?_ ?_
 ·refine aA (ag (ad 0) (au tq)) ?_
  exact ak 1 xh.nd
 refine aj ?_ ?_
 ·refine cB ?_ ?_ aV
  ·refine jw ?_
   exact dm (ag (ad 1) ae)
  refine al ?_
  refine av ?_
  refine ai o6 hr ?_
  refine ac (ad 0) ?_
  refine ac (au tq) ?_
  refine ac ?_ af
  refine aw ?_
  refine ac ae ?_
  refine ac dW ?_
  refine ac ?_ af
  exact aw af
 refine aj ?_ ?_
 ·refine cB ?_ ?_ aV
  ·refine aB qz ?_ (au vj)
   exact bF hX uA (ac (ag (ad 1) ae) af)
  refine al ?_
  exact av (ad 0)
 refine al ?_
 refine av ?_
 refine ai o6 hr ?_
 refine ac (ad 0) ?_
 refine ac (au tq) ?_
 refine ac ?_ af
 refine aw ?_
 refine ac (ag (ad 1) ae) ?_
 refine ac dW ?_
 refine ac ?_ af
 refine ao aD (ag (ad 1) ae) ?_
 exact aw (ac (ag (ad 1) ae) af)
abbrev dj:ML:=top 23
theorem uX:k4 ["state","laps"] ["state"] (i6 dj):=rW
theorem hV(o6:n6 P w K mg base k "put" ["state","place","part"] aG)(tq:sj K mg "LAPS" cb)(Fn:rJ K "laps_turned" "laps_turned" dj f fd):l7 P w K mg base q8 (k+1) f fd ["state"] (rL K bw):=by
 refine aq Fn uX ?_
 intro _ _ _ _ _ _ hr
 refine aj ?_ ?_
 ·refine aA (ag (ad 0) (au tq)) ?_
  exact ak 1 uX.nd
 refine al ?_
 refine av ?_
 refine ai o6 hr ?_
 refine ac (ad 0) ?_
 refine ac (au tq) ?_
 refine ac ?_ af
 refine aw ?_
 refine ac (ag (ad 1) ae) ?_
 refine ac ?_ (ac (ag (ad 1) ae) af)
 exact jJ (ag (ad 1) ae)
abbrev eL:ML:=top 18
theorem uD:k4 ["state","clock","within"] ["state"] (i6 eL):=rW
theorem j4(o6:n6 P w K mg base k "put" ["state","place","part"] aG)(qR:sj K mg "CLOCK" a_)(Fn:rJ K "minute_on" "minute_on" eL f fd):l7 P w K mg base q8 (k+1) f fd ["state"] (rL K bM):=by
 refine aq Fn uD ?_
 intro _ _ _ _ _ _ hr
 refine aj ?_ ?_
 ·refine aA (ag (ad 0) (au qR)) ?_
  exact ak 1 uD.nd
 refine aj ?_ ?_
 ·refine aA ?_ ?_
  ·refine ao aJ ?_ ae
   refine ao aD ?_ ae
   exact ao aJ (ad 1) ae
  exact ak 2 uD.nd
 refine al ?_
 refine av ?_
 refine ai o6 hr ?_
 refine ac (ad 0) ?_
 refine ac (au qR) ?_
 refine ac ?_ af
 refine ao aD ?_ (ad 2)
 refine ao bJ (ad 1) ?_
 exact ao aJ (ad 1) ae
abbrev fQ:ML:=top 16
theorem lb:k4 ["state"] ["state"] (i6 fQ):=rW
theorem lJ(Fn:rJ K "nothing" "nothing" fQ f fd):l7 P w K mg base q8 (k+1) f fd ["state"] (rL K cJ):=by
 refine aq Fn lb ?_
 intro _ _ _ _ _ _ hr
 refine al ?_
 exact av (ad 0)
abbrev gh:ML:=top 19
theorem kU:k4 ["state"] ["state"] (i6 gh):=rW
theorem le(o6:n6 P w K mg base k "put" ["state","place","part"] aG)(qR:sj K mg "CLOCK" a_)(Fn:rJ K "to_zero" "to_zero" gh f fd):l7 P w K mg base q8 (k+1) f fd ["state"] (rL K cG):=by
 refine aq Fn kU ?_
 intro _ _ _ _ _ _ hr
 refine al ?_
 refine av ?_
 refine ai o6 hr ?_
 refine ac (ad 0) ?_
 refine ac (au qR) ?_
 refine ac ?_ af
 refine ao bJ (ag (ad 0) (au qR)) ?_
 exact ao aJ (ag (ad 0) (au qR)) ae
abbrev dJ:ML:=top 31
theorem sP:k4 ["book","state","press","rows","row","step"] ["book","state","press"] (i6 dJ):=rW
theorem iU(tu:n6 P w K mg base k "alarm_hour_on" ["state"] ba)(sr:n6 P w K mg base k "alarm_minute_on" ["state"] aT)(t7:n6 P w K mg base k "alarm_turned" ["state"] bj)(su:n6 P w K mg base k "count_minute_on" ["state"] aU)(sv:n6 P w K mg base k "count_second_on" ["state"] aS)(t8:n6 P w K mg base k "count_turned" ["state"] bz)(yf:n6 P w K mg base k "filled" ["state"] dw)(wN:n6 P w K mg base k "hour_on" ["state"] cH)(vY:n6 P w K mg base k "lap_kept" ["state"] cQ)(uo:n6 P w K mg base k "laps_turned" ["state"] bw)(vk:n6 P w K mg base k "minute_on" ["state"] bM)(wO:n6 P w K mg base k "nothing" ["state"] cJ)(o6:n6 P w K mg base k "put" ["state","place","part"] aG)(wQ:n6 P w K mg base k "to_zero" ["state"] cG)(sw:sj K mg "MODE" cc)(s_PRESSES:Ht K mg "PRESSES" cF)(zM:Eb P w K mg base k "STEPS" vw)(Fn:rJ K "press_done" "press_done" dJ f fd):l7 P w K mg base q8 (k+1) f fd ["book","state","press"] (rL K bq):=by
 refine aq Fn sP ?_
 intro _ _ _ _ _ _ hr
 refine aj ?_ ?_
 ·refine aA ?_ ?_
  ·exact ag (ag (ag (ad 0) ae) (ag (ad 1) (au sw))) ae
  exact ak 3 sP.nd
 refine aj ?_ ?_
 ·refine aA ?_ ?_
  ·refine ag (ad 3) ?_
   exact ql s_PRESSES (ad 2)
  exact ak 4 sP.nd
 refine qx 5 sP.nd zM (ag (ad 4) ae) ?_
 intro fa G_ hF
 refine Hz ?_
 refine Em o6 hr ?_
 refine Ej ?_ ?_
 ·exact C5 hF hr (ac (ad 1) af)
 exact HG (ac (au sw) (ac (ag (ad 4) ae) af))
abbrev hZ:ML:=top 56
theorem yN:k4 ["book","state","button"] ["book","state","button"] (i6 hZ):=rW
theorem mJ(rO:n6 P w K mg base k "is_holding" ["state","button"] bo)(sH:n6 P w K mg base k "is_short" ["state","button"] bB)(rP:n6 P w K mg base k "press_done" ["book","state","press"] bq)(o6:n6 P w K mg base k "put" ["state","place","part"] aG)(o8:sj K mg "HELD" aR)(sJ:sj K mg "IDLE" cR)(Fn:rJ K "let_go" "let_go" hZ f fd):l7 P w K mg base q8 (k+1) f fd ["book","state","button"] (rL K eJ):=by
 refine aq Fn yN ?_
 intro _ _ _ _ _ _ hr
 refine aj ?_ ?_
 ·refine cB ?_ ?_ aV
  ·refine jw ?_
   refine dm ?_
   exact ai rO hr (ac (ad 1) (ac (ad 2) af))
  refine al ?_
  exact av (ad 1)
 refine aj ?_ ?_
 ·refine cB ?_ ?_ aV
  ·refine dm ?_
   exact ai sH hr (ac (ad 1) (ac (ad 2) af))
  refine al ?_
  refine aA ?_ ?_
  ·exact ai rP hr (ac (ad 0) (ac (ad 1) (ac (ad 2) af)))
  exact ak 1 yN.nd
 refine al ?_
 refine av ?_
 refine ai o6 hr ?_
 refine ac ?_ (ac (au sJ) (ac ae af))
 exact ai o6 hr (ac (ad 1) (ac (au o8) (ac aO af)))
abbrev gT:ML:=top 55
theorem y4:k4 ["state","button","ticks"] ["state","button"] (i6 gT):=rW
theorem nh(o6:n6 P w K mg base k "put" ["state","place","part"] aG)(o8:sj K mg "HELD" aR)(sJ:sj K mg "IDLE" cR)(vZ:sj K mg "RING" gm)(Fn:rJ K "pushed" "pushed" gT f fd):l7 P w K mg base q8 (k+1) f fd ["state","button"] (rL K eN):=by
 refine aq Fn y4 ?_
 intro _ _ _ _ _ _ hr
 refine aj ?_ ?_
 ·refine cB ?_ ?_ aV
  ·exact aB bU (ag (ad 0) (au o8)) aO
  refine al ?_
  exact av (ad 0)
 refine aj ?_ ?_
 ·refine aA ?_ ?_
  ·refine eS ?_ aO ae
   exact aB gv (ag (ad 0) (au vZ)) ae
  exact ak 2 y4.nd
 refine al ?_
 refine av ?_
 refine ai o6 hr ?_
 refine ac ?_ (ac (au sJ) (ac ae af))
 refine ai o6 hr ?_
 refine ac ?_ ?_
 ·exact ai o6 hr (ac (ad 0) (ac (au vZ) (ac ae af)))
 refine ac (au o8) ?_
 refine ac ?_ af
 exact aw (ac (ad 1) (ac (ad 2) af))
abbrev eY:ML:=top 40
theorem w_:k4 ["count","many","left"] ["count","many"] (i6 eY):=rW
theorem kd(tG:mg "max" = none)(Fn:rJ K "count_on" "count_on" eY f fd):l7 P w K mg base q8 (k+1) f fd ["count","many"] (rL K cS):=by
 refine aq Fn w_ ?_
 intro _ _ _ _ _ _ hr
 refine aj ?_ ?_
 ·refine cB ?_ ?_ aV
  ·refine jw ?_
   exact dm (ag (ad 0) ae)
  refine al ?_
  exact av (ad 0)
 refine aj ?_ ?_
 ·refine aA ?_ ?_
  ·refine bF (ib rfl) tG ?_
   refine ac ae ?_
   refine ac ?_ af
   exact ao bJ (ag (ad 0) ae) (ad 1)
  exact ak 2 w_.nd
 refine al ?_
 refine av ?_
 refine aw ?_
 refine ac (ag (ad 0) ae) ?_
 refine ac (ag (ad 0) ae) ?_
 refine ac (ad 2) ?_
 refine ac ?_ af
 exact eC gv (ad 2) ae
abbrev gi:ML:=top 42
theorem kW:k4 ["held","many"] ["held","many"] (i6 gi):=rW
theorem lD(Fn:rJ K "held_on" "held_on" gi f fd):l7 P w K mg base q8 (k+1) f fd ["held","many"] (rL K dq):=by
 refine aq Fn kW ?_
 intro _ _ _ _ _ _ hr
 refine aj ?_ ?_
 ·refine cB ?_ ?_ aV
  ·refine eV ?_
   refine hW ?_ ?_
   ·exact aB eU (ad 0) aO
   refine f_ ?_
   exact aB eU (ag (ad 0) ae) aO
  refine al ?_
  exact av (ad 0)
 refine al ?_
 refine av ?_
 refine aw ?_
 refine ac (ag (ad 0) ae) ?_
 refine ac ?_ af
 exact ao aD (ag (ad 0) ae) (ad 1)
abbrev cC:ML:=top 43
theorem gt:k4 ["book","state"] ["book","state"] (i6 cC):=rW
theorem gf(tG:mg "max" = none)(sJ:sj K mg "IDLE" cR)(Fn:rJ K "ticks_to_back" "ticks_to_back" cC f fd):l7 P w K mg base q8 (k+1) f fd ["book","state"] (rL K aW):=by
 refine aq Fn gt ?_
 intro _ _ _ _ _ _ hr
 refine al ?_
 refine av ?_
 refine bF (ib rfl) tG ?_
 refine ac ae ?_
 refine ac ?_ af
 exact ao bJ (ag (ad 0) ae) (ag (ad 1) (au sJ))
abbrev fX:ML:=top 44
theorem xZ:k4 ["book","state","many","ticks"] ["book","state","many"] (i6 fX):=rW
theorem lz(q9:n6 P w K mg base k "ticks_to_back" ["book","state"] aW)(o8:sj K mg "HELD" aR)(sJ:sj K mg "IDLE" cR)(Fn:rJ K "idle_on" "idle_on" fX f fd):l7 P w K mg base q8 (k+1) f fd ["book","state","many"] (rL K dt):=by
 refine aq Fn xZ ?_
 intro _ _ _ _ _ _ hr
 refine aj ?_ ?_
 ·refine cB ?_ ?_ aV
  ·refine eV ?_
   refine hW ?_ ?_
   ·exact aB bU (ag (ad 1) (au o8)) aO
   refine f_ ?_
   exact aB (dv hr) (ag (ad 0) ae) ae
  refine al ?_
  exact av (ag (ad 1) (au sJ))
 refine aj ?_ ?_
 ·refine aA ?_ ?_
  ·exact ai q9 hr (ac (ad 0) (ac (ad 1) af))
  exact ak 3 xZ.nd
 refine al ?_
 refine av ?_
 refine eS ?_ ?_ ?_
 ·exact aB kF (ad 2) (ad 3)
 ·exact ao aD (ag (ad 1) (au sJ)) (ad 2)
 refine ao aJ ?_ (ag (ad 0) ae)
 exact ao bJ (ad 2) (ad 3)
abbrev fT:ML:=top 39
theorem lw:k4 ["laps","many"] ["laps","many"] (i6 fT):=rW
theorem lf(Fn:rJ K "laps_on" "laps_on" fT f fd):l7 P w K mg base q8 (k+1) f fd ["laps","many"] (rL K du):=by
 refine aq Fn lw ?_
 intro _ _ _ _ _ _ hr
 refine al ?_
 refine av ?_
 refine eS ?_ ?_ (ad 0)
 ·exact dm (ag (ad 0) ae)
 refine aw ?_
 refine ac ?_ (ac dW (ac (ag (ad 0) ae) af))
 exact ao aD (ag (ad 0) ae) (ad 1)
abbrev dO:ML:=top 34
theorem ul:k4 ["state","alarm","second"] ["state"] (i6 dO):=rW
theorem iJ(qY:sj K mg "ALARM" bh)(qR:sj K mg "CLOCK" a_)(t9:sj K mg "DAY" cY)(Fn:rJ K "alarm_tick" "alarm_tick" dO f fd):l7 P w K mg base q8 (k+1) f fd ["state"] (rL K aK):=by
 refine aq Fn ul ?_
 intro _ _ _ _ _ _ hr
 refine aj ?_ ?_
 ·refine aA (ag (ad 0) (au qY)) ?_
  exact ak 1 ul.nd
 refine aj ?_ ?_
 ·refine cB ?_ ?_ aV
  ·refine jw ?_
   exact dm (ag (ad 1) ae)
  refine al ?_
  exact av aO
 refine aj ?_ ?_
 ·refine aA ?_ ?_
  ·refine ao aD ?_ ?_
   ·exact ao cL ae (ag (ad 1) ae)
   exact ao cL ae (ag (ad 1) ae)
  exact ak 2 ul.nd
 refine al ?_
 refine av ?_
 refine ao aD ?_ ae
 refine ao aJ ?_ (au t9)
 refine ao bJ ?_ ae
 exact ao bJ (ad 2) (ag (ad 0) (au qR))
abbrev dG:ML:=top 35
theorem vG:k4 ["state","count"] ["state"] (i6 dG):=rW
theorem iF(qL:sj K mg "COUNT" aQ)(Fn:rJ K "count_tick" "count_tick" dG f fd):l7 P w K mg base q8 (k+1) f fd ["state"] (rL K aL):=by
 refine aq Fn vG ?_
 intro _ _ _ _ _ _ hr
 refine aj ?_ ?_
 ·refine aA (ag (ad 0) (au qL)) ?_
  exact ak 1 vG.nd
 refine al ?_
 refine av ?_
 refine eS ?_ (ag (ad 1) ae) aO
 exact dm (ag (ad 1) ae)
abbrev eG:ML:=top 36
theorem tJ:k4 ["state","many","alarm","count","ticks"] ["state","many"] (i6 eG):=rW
theorem jv(qS:n6 P w K mg base k "alarm_tick" ["state"] aK)(qT:n6 P w K mg base k "count_tick" ["state"] aL)(tG:mg "max" = none)(t9:sj K mg "DAY" cY)(Fn:rJ K "last_ring" "last_ring" eG f fd):l7 P w K mg base q8 (k+1) f fd ["state","many"] (rL K cx):=by
 refine aq Fn tJ ?_
 intro _ _ _ _ _ _ hr
 refine aj ?_ ?_
 ·refine aA ?_ ?_
  ·exact ai qS hr (ac (ad 0) af)
  exact ak 2 tJ.nd
 refine aj ?_ ?_
 ·refine aA ?_ ?_
  ·exact ai qT hr (ac (ad 0) af)
  exact ak 3 tJ.nd
 refine jU 4 tJ.nd af ?_
 refine fu ?_ ?_
 ·refine mi ?_ ?_ gJ
  ·refine eV ?_
   refine j6 ?_ ?_
   ·exact aB bU (ad 2) aO
   refine gP ?_
   exact aB ot (ad 2) (ad 1)
  refine fB ?_
  refine jF 4 ?_
  refine ao bJ (ad 1) ?_
  refine ao aJ ?_ (au t9)
  exact ao bJ (ad 1) (ad 2)
 refine fu ?_ ?_
 ·refine mi ?_ ?_ gJ
  ·refine eV ?_
   refine j6 ?_ ?_
   ·exact aB bU (ad 3) aO
   refine gP ?_
   exact aB ot (ad 3) (ad 1)
  refine fB ?_
  exact jF 4 (ad 3)
 refine jk ?_
 refine al ?_
 refine av ?_
 exact pw rfl tG (ad 4)
abbrev fZ:ML:=top 41
theorem xQ:k4 ["state","many","last"] ["state","many"] (i6 fZ):=rW
theorem kX(vm:n6 P w K mg base k "last_ring" ["state","many"] cx)(tG:mg "max" = none)(vn:sj K mg "FULL_RING" eO)(vZ:sj K mg "RING" gm)(Fn:rJ K "ring_on" "ring_on" fZ f fd):l7 P w K mg base q8 (k+1) f fd ["state","many"] (rL K dr):=by
 refine aq Fn xQ ?_
 intro _ _ _ _ _ _ hr
 refine aj ?_ ?_
 ·refine aA ?_ ?_
  ·exact ai vm hr (ac (ad 0) (ac (ad 1) af))
  exact ak 2 xQ.nd
 refine aj ?_ ?_
 ·refine cB ?_ ?_ aV
  ·exact aB eU (ad 2) aO
  refine al ?_
  refine av ?_
  refine bF (ib rfl) tG ?_
  refine ac ae ?_
  refine ac ?_ af
  exact ao bJ (ag (ad 0) (au vZ)) (ad 1)
 refine al ?_
 refine av ?_
 refine bF (ib rfl) tG ?_
 refine ac ae ?_
 refine ac ?_ af
 refine ao bJ (au vn) ?_
 exact ao bJ (ad 1) (ad 2)
abbrev gk:ML:=top 45
theorem ll:k4 ["book","state","many"] ["book","state","many"] (i6 gk):=rW
theorem lK(v4:n6 P w K mg base k "count_on" ["count","many"] cS)(wR:n6 P w K mg base k "held_on" ["held","many"] dq)(wU:n6 P w K mg base k "idle_on" ["book","state","many"] dt)(wV:n6 P w K mg base k "laps_on" ["laps","many"] du)(wW:n6 P w K mg base k "ring_on" ["state","many"] dr)(qY:sj K mg "ALARM" bh)(qR:sj K mg "CLOCK" a_)(qL:sj K mg "COUNT" aQ)(t9:sj K mg "DAY" cY)(o8:sj K mg "HELD" aR)(tq:sj K mg "LAPS" cb)(sw:sj K mg "MODE" cc)(Fn:rJ K "counted" "counted" gk f fd):l7 P w K mg base q8 (k+1) f fd ["book","state","many"] (rL K ci):=by
 refine aq Fn ll ?_
 intro _ _ _ _ _ _ hr
 refine al ?_
 refine av ?_
 refine aw ?_
 refine ac (ag (ad 1) (au sw)) ?_
 refine ac ?_ ?_
 ·refine ao aJ ?_ (au t9)
  exact ao aD (ag (ad 1) (au qR)) (ad 2)
 refine ac (ag (ad 1) (au qY)) ?_
 refine ac ?_ ?_
 ·refine ai wV hr ?_
  exact ac (ag (ad 1) (au tq)) (ac (ad 2) af)
 refine ac ?_ ?_
 ·refine ai v4 hr ?_
  exact ac (ag (ad 1) (au qL)) (ac (ad 2) af)
 refine ac ?_ ?_
 ·exact ai wW hr (ac (ad 1) (ac (ad 2) af))
 refine ac ?_ ?_
 ·refine ai wR hr ?_
  exact ac (ag (ad 1) (au o8)) (ac (ad 2) af)
 refine ac ?_ af
 exact ai wU hr (ac (ad 0) (ac (ad 1) (ac (ad 2) af)))
abbrev ej:ML:=top 46
theorem ji:k4 ["book","state"] ["book","state"] (i6 ej):=rW
theorem jq(sw:sj K mg "MODE" cc)(Fn:rJ K "goes_back" "goes_back" ej f fd):l7 P w K mg base q8 (k+1) f fd ["book","state"] (rL K cz):=by
 refine aq Fn ji ?_
 intro _ _ _ _ _ _ hr
 refine al ?_
 refine av ?_
 refine iA ?_ ?_
 ·exact eC gv (ag (ad 0) ae) ae
 refine iA ?_ ?_
 ·exact eC (pG hr) (ag (ad 1) (au sw)) ae
 refine jS ?_
 refine jJ ?_
 exact ag (ag (ag (ad 0) ae) (ag (ad 1) (au sw))) ae
abbrev cD:ML:=top 47
theorem gn:k4 ["book","state"] ["book","state"] (i6 cD):=rW
theorem gb(tG:mg "max" = none)(o8:sj K mg "HELD" aR)(Fn:rJ K "ticks_to_long" "ticks_to_long" cD f fd):l7 P w K mg base q8 (k+1) f fd ["book","state"] (rL K bu):=by
 refine aq Fn gn ?_
 intro _ _ _ _ _ _ hr
 refine al ?_
 refine av ?_
 refine bF (ib rfl) tG ?_
 refine ac ae ?_
 refine ac ?_ af
 exact ao bJ (ag (ad 0) ae) (ag (ag (ad 1) (au o8)) ae)
abbrev eK:ML:=top 48
theorem ww:k4 ["book","state","held"] ["book","state"] (i6 eK):=rW
theorem jY(vp:n6 P w K mg base k "goes_back" ["book","state"] cz)(q9:n6 P w K mg base k "ticks_to_back" ["book","state"] aW)(tw:n6 P w K mg base k "ticks_to_long" ["book","state"] bu)(o8:sj K mg "HELD" aR)(Fn:rJ K "turn_tick" "turn_tick" eK f fd):l7 P w K mg base q8 (k+1) f fd ["book","state"] (rL K bx):=by
 refine aq Fn ww ?_
 intro _ _ _ _ _ _ hr
 refine aj ?_ ?_
 ·refine aA (ag (ad 1) (au o8)) ?_
  exact ak 2 ww.nd
 refine aj ?_ ?_
 ·refine cB ?_ ?_ aV
  ·exact aB eU (ad 2) aO
  refine al ?_
  refine av ?_
  refine eS ?_ ?_ aO
  ·refine dm ?_
   exact ai vp hr (ac (ad 0) (ac (ad 1) af))
  exact ai q9 hr (ac (ad 0) (ac (ad 1) af))
 refine al ?_
 refine av ?_
 refine eS ?_ aO ?_
 ·exact aB eU (ag (ad 2) ae) aO
 exact ai tw hr (ac (ad 0) (ac (ad 1) af))
abbrev g_:ML:=top 49
theorem y0:k4 ["book","state","held"] ["book","state"] (i6 g_):=rW
theorem na(rP:n6 P w K mg base k "press_done" ["book","state","press"] bq)(o6:n6 P w K mg base k "put" ["state","place","part"] aG)(o8:sj K mg "HELD" aR)(sw:sj K mg "MODE" cc)(Fn:rJ K "turned" "turned" g_ f fd):l7 P w K mg base q8 (k+1) f fd ["book","state"] (rL K dZ):=by
 refine aq Fn y0 ?_
 intro _ _ _ _ _ _ hr
 refine aj ?_ ?_
 ·refine aA (ag (ad 1) (au o8)) ?_
  exact ak 2 y0.nd
 refine aj ?_ ?_
 ·refine cB ?_ ?_ aV
  ·exact aB eU (ad 2) aO
  refine al ?_
  refine av ?_
  exact ai o6 hr (ac (ad 1) (ac (au sw) (ac ae af)))
 refine al ?_
 refine av ?_
 refine ai rP hr ?_
 refine ac (ad 0) ?_
 refine ac ?_ ?_
 ·refine ai o6 hr ?_
  refine ac (ad 1) ?_
  refine ac (au o8) ?_
  refine ac ?_ af
  exact aw (ac (ag (ad 2) ae) (ac aO af))
 refine ac ?_ af
 exact pI (ag (ad 2) ae)
abbrev db:ML:=top 50
theorem ik:k4 ["book","state"] ["book","state"] (i6 db):=rW
theorem iz(tN:n6 P w K mg base k "counted" ["book","state","many"] ci)(sh:n6 P w K mg base k "turn_tick" ["book","state"] bx)(yg:n6 P w K mg base k "turned" ["book","state"] dZ)(Fn:rJ K "behind_turn" "behind_turn" db f fd):l7 P w K mg base q8 (k+1) f fd ["book","state"] (rL K bv):=by
 refine aq Fn ik ?_
 intro _ _ _ _ _ _ hr
 refine al ?_
 refine av ?_
 refine ai yg hr ?_
 refine ac (ad 0) ?_
 refine ac ?_ af
 refine ai tN hr ?_
 refine ac (ad 0) ?_
 refine ac (ad 1) ?_
 refine ac ?_ af
 exact ai sh hr (ac (ad 0) (ac (ad 1) af))
abbrev eh:ML:=top 51
theorem wl:k4 ["book","state","many","turn"] ["book","state","many"] (i6 eh):=rW
theorem j2(uq:n6 P w K mg base k "behind_turn" ["book","state"] bv)(sh:n6 P w K mg base k "turn_tick" ["book","state"] bx)(Fn:rJ K "stretches" "stretches" eh f fd):l7 P w K mg base q8 (k+1) f fd ["book","state","many"] (rL K aI):=by
 refine aq Fn wl ?_
 intro _ _ _ _ _ _ hr
 refine aj ?_ ?_
 ·refine aA ?_ ?_
  ·exact ai sh hr (ac (ad 0) (ac (ad 1) af))
  exact ak 3 wl.nd
 refine aj ?_ ?_
 ·refine cB ?_ ?_ aV
  ·refine eV ?_
   refine hW ?_ ?_
   ·exact aB eU (ad 3) aO
   refine f_ ?_
   exact aB gv (ad 3) (ad 2)
  refine al ?_
  refine av ?_
  refine jB ?_
  refine ac ?_ af
  exact aw (ac ae (ac (ad 1) (ac (ad 2) af)))
 refine al ?_
 refine av ?_
 refine jB ?_
 refine ac ?_ ?_
 ·exact aw (ac ae (ac (ad 1) (ac (ad 3) af)))
 refine ac ?_ af
 refine aw ?_
 refine ac (ad 3) ?_
 refine ac ?_ ?_
 ·exact ai uq hr (ac (ad 0) (ac (ad 1) af))
 refine ac ?_ af
 exact ao bJ (ad 2) (ad 3)
abbrev gW:ML:=top 52
theorem yH:k4 ["book","state","many","last"] ["book","state","many"] (i6 gW):=rW
theorem ni(tN:n6 P w K mg base k "counted" ["book","state","many"] ci)(rn:n6 P w K mg base k "stretches" ["book","state","many"] aI)(Fn:rJ K "ticked" "ticked" gW f fd):l7 P w K mg base q8 (k+1) f fd ["book","state","many"] (rL K el):=by
 refine aq Fn yH ?_
 intro _ _ _ _ _ _ hr
 refine aj ?_ ?_
 ·refine aA ?_ ?_
  ·refine ag ?_ ?_
   ·exact ai rn hr (ac (ad 0) (ac (ad 1) (ac (ad 2) af)))
   exact qE pP ae
  exact ak 3 yH.nd
 refine al ?_
 refine av ?_
 refine ai tN hr ?_
 refine ac (ad 0) ?_
 exact ac (ag (ad 3) ae) (ac (ag (ad 3) ae) af)
abbrev lA:ML:=top 54
theorem pk:k4 ["book","state","event"] ["book","state","event"] (i6 lA):=rW
theorem pj(yh:n6 P w K mg base k "let_go" ["book","state","button"] eJ)(yi:n6 P w K mg base k "pushed" ["state","button"] eN)(yj:n6 P w K mg base k "ticked" ["book","state","many"] el)(Fn:rJ K "gone" "gone" lA f fd):l7 P w K mg base q8 (k+1) f fd ["book","state","event"] (rL K cN):=by
 refine aq Fn pk ?_
 intro _ _ _ _ _ _ hr
 refine aj ?_ ?_
 ·refine cB ?_ ?_ aV
  ·exact aB (dv hr) (ag (ad 2) ae) aF
  refine al ?_
  refine av ?_
  exact ai yi hr (ac (ad 1) (ac (ag (ad 2) ae) af))
 refine aj ?_ ?_
 ·refine cB ?_ ?_ aV
  ·exact aB (dv hr) (ag (ad 2) ae) aF
  refine al ?_
  refine av ?_
  refine ai yh hr ?_
  exact ac (ad 0) (ac (ad 1) (ac (ag (ad 2) ae) af))
 refine al ?_
 refine av ?_
 refine ai yj hr ?_
 exact ac (ad 0) (ac (ad 1) (ac (ag (ad 2) ae) af))
abbrev jW:ML:=top 65
theorem xJ:k4 ["book","state","row","event"] ["book","state","row"] (i6 jW):=rW
theorem ow(uK:n6 P w K mg base k "gone" ["book","state","event"] cN)(Fn:rJ K "after" "after" jW f fd):l7 P w K mg base q8 (k+1) f fd ["book","state","row"] (rL K fN):=by
 refine aq Fn xJ ?_
 intro _ _ _ _ _ _ hr
 refine aj ?_ ?_
 ·refine lR PassesOwn.never rfl ?_ ?_ ?_
  ·exact ek (ad 2)
  ·exact ak 3 xJ.nd
  refine al ?_
  refine aA ?_ ?_
  ·exact ai uK hr (ac (ad 0) (ac (ad 1) (ac (ad 3) af)))
  exact ak 1 xJ.nd
 refine al ?_
 exact av (ad 1)
abbrev jT:ML:=top 13
theorem wo:k4 ["book","alarm","laps","count"] ["book"] (i6 jT):=rW
theorem ox(Fn:rJ K "begun" "begun" jT f fd):l7 P w K mg base q8 (k+1) f fd ["book"] (rL K bY):=by
 refine aq Fn wo ?_
 intro _ _ _ _ _ _ hr
 refine aj ?_ ?_
 ·refine aA ?_ ?_
  ·exact aw (ac ae (ac ae (ac dW af)))
  exact ak 1 wo.nd
 refine aj ?_ ?_
 ·refine aA ?_ ?_
  ·refine aw ?_
   refine ac ae ?_
   refine ac dW ?_
   refine ac ?_ af
   exact aw af
  exact ak 2 wo.nd
 refine aj ?_ ?_
 ·refine aA ?_ ?_
  ·refine aw ?_
   exact ac ae (ac ae (ac ae (ac dW af)))
  exact ak 3 wo.nd
 refine al ?_
 refine av ?_
 refine aw ?_
 refine ac ae ?_
 refine ac ae ?_
 refine ac (ad 1) ?_
 refine ac (ad 2) ?_
 exact ac (ad 3) (ac ae (ac aO (ac ae af)))
abbrev dP:ML:=top 37
theorem rV:k4 ["state","many","alarm","count","ticks"] ["state","many"] (i6 dP):=rW
theorem iQ(qS:n6 P w K mg base k "alarm_tick" ["state"] aK)(qT:n6 P w K mg base k "count_tick" ["state"] aL)(Bu:mg "list" = none)(rK:mg "range" = none)(Eu:mg "set" = none)(yk:mg "sorted" = none)(t9:sj K mg "DAY" cY)(Fn:rJ K "ring_ticks" "ring_ticks" dP f fd):l7 P w K mg base q8 (k+1) f fd ["state","many"] (rL K be):=by
 refine aq Fn rV ?_
 intro _ _ _ _ _ _ hr
 refine aj ?_ ?_
 ·refine aA ?_ ?_
  ·exact ai qS hr (ac (ad 0) af)
  exact ak 2 rV.nd
 refine aj ?_ ?_
 ·refine aA ?_ ?_
  ·exact ai qT hr (ac (ad 0) af)
  exact ak 3 rV.nd
 refine jU 4 rV.nd af ?_
 refine oq 4 rfl Bu rK rV.nd ?_ (ad 2) ?_ (au t9) ?_
 ·exact aB bU (ad 2) aO
 ·exact ao aD (ad 1) ae
 refine fu ?_ ?_
 ·refine mi ?_ ?_ gJ
  ·refine eV ?_
   refine j6 ?_ ?_
   ·exact aB bU (ad 3) aO
   refine gP ?_
   exact aB ot (ad 3) (ad 1)
  refine fB ?_
  exact jF 4 (ad 3)
 refine jk ?_
 refine al ?_
 refine av ?_
 exact qw rfl yk Eu (ad 4)
abbrev eM:ML:=top 69
theorem jK:k4 ["state"] ["state"] (i6 eM):=rW
theorem jl(o8:sj K mg "HELD" aR)(Fn:rJ K "turn_sign" "turn_sign" eM f fd):l7 P w K mg base q8 (k+1) f fd ["state"] (rL K cy):=by
 refine aq Fn jK ?_
 intro _ _ _ _ _ _ hr
 refine al ?_
 refine av ?_
 refine eS ?_ aF ?_
 ·exact aB eU (ag (ad 0) (au o8)) aO
 exact pI (ag (ag (ad 0) (au o8)) ae)
abbrev bV:ML:=top 68
theorem rY:k4 ["book","state","many","stretch","told"] ["book","state","many"] (i6 bV):=rW
theorem fc(uL:n6 P w K mg base k "ring_ticks" ["state","many"] be)(rn:n6 P w K mg base k "stretches" ["book","state","many"] aI)(vq:n6 P w K mg base k "turn_sign" ["state"] cy)(Fn:rJ K "tick_happenings" "tick_happenings" bV f fd):l7 P w K mg base q8 (k+1) f fd ["book","state","many"] (rL K bc):=by
 refine aq Fn rY ?_
 intro _ _ _ _ _ _ hr
 refine jU 4 rY.nd af ?_
 refine fu ?_ ?_
 ·refine nZ PassesOwn.never rfl ?_ ?_ ?_
  ·refine ek ?_
   exact ai rn hr (ac (ad 0) (ac (ad 1) (ac (ad 2) af)))
  ·exact ak 3 rY.nd
  refine kn ?_ ?_
  ·refine mi ?_ ?_ gJ
   ·exact aB gv (ag (ad 3) ae) ae
   refine fB ?_
   refine jF 4 ?_
   refine aw ?_
   refine ac (ag (ad 3) ae) ?_
   refine ac ?_ af
   exact ai vq hr (ac (ad 1) af)
  refine fB ?_
  refine oi 4 ?_
  refine kJ (T:=["tick"]) rfl ?_ ?_ ?_ ?_ (r_ (by decide)) (show List.Nodup ((["tick"]:List Str)++(["book" ,"state" ,"many" ,"stretch" ,"told"]:List Str)) from by decide +kernel)
  ·refine ek ?_
   refine ai uL hr ?_
   exact ac (ag (ad 3) ae) (ac (ag (ad 3) ae) af)
  ·intro C s₃ H₃ fp
   exact ak 0 (show List.Nodup (["tick" ,"book" ,"state" ,"many" ,"stretch" ,"told"]:List Str) from by decide +kernel)
  ·intro C s₃ H₃ fp
   exact fR
  intro C s₃ H₃ fp
  refine aw ?_
  refine ac ?_ (ac aF af)
  exact ao aD (ag (ad 4) ae) (ad 0)
 refine jk ?_
 refine al ?_
 exact av (ad 4)
abbrev dM:ML:=top 67
theorem iM:k4 ["book","state","event"] ["book","state","event"] (i6 dM):=rW
theorem iW(sH:n6 P w K mg base k "is_short" ["state","button"] bB)(sx:n6 P w K mg base k "tick_happenings" ["book","state","many"] bc)(Fn:rJ K "happenings" "happenings" dM f fd):l7 P w K mg base q8 (k+1) f fd ["book","state","event"] (rL K aY):=by
 refine aq Fn iM ?_
 intro _ _ _ _ _ _ hr
 refine aj ?_ ?_
 ·refine cB ?_ ?_ aV
  ·exact aB (dv hr) (ag (ad 2) ae) aF
  refine al ?_
  refine av ?_
  refine ai sx hr ?_
  exact ac (ad 0) (ac (ad 1) (ac (ag (ad 2) ae) af))
 refine aj ?_ ?_
 ·refine cB ?_ ?_ aV
  ·refine eV ?_
   refine j6 ?_ ?_
   ·exact aB (dv hr) (ag (ad 2) ae) aF
   refine gP ?_
   refine dm ?_
   exact ai sH hr (ac (ad 1) (ac (ag (ad 2) ae) af))
  refine al ?_
  refine av ?_
  refine jB ?_
  refine ac ?_ af
  exact aw (ac ae (ac (ag (ad 2) ae) af))
 refine al ?_
 refine av ?_
 exact jB af
abbrev jN:ML:=top 66
theorem tS:k4 ["book","row","state","ticks","event","told"] ["book","row"] (i6 jN):=rW
theorem oz(tM:n6 P w K mg base k "begun" ["book"] bY)(uK:n6 P w K mg base k "gone" ["book","state","event"] cN)(uM:n6 P w K mg base k "happenings" ["book","state","event"] aY)(tL:mg "tuple" = none)(Fn:rJ K "story" "story" jN f fd):l7 P w K mg base q8 (k+1) f fd ["book","row"] (rL K cX):=by
 refine aq Fn tS ?_
 intro _ _ _ _ _ _ hr
 refine aj ?_ ?_
 ·refine aA ?_ ?_
  ·exact ai tM hr (ac (ad 0) af)
  exact ak 2 tS.nd
 refine aj ?_ ?_
 ·refine aA ae ?_
  exact ak 3 tS.nd
 refine jU 5 tS.nd af ?_
 refine fu ?_ ?_
 ·refine nZ PassesOwn.never rfl ?_ ?_ ?_
  ·exact ek (ad 1)
  ·exact ak 4 tS.nd
  refine kn ?_ ?_
  ·refine oi 5 ?_
   refine kJ (T:=["pair"]) rfl ?_ ?_ ?_ ?_ (r_ (by decide)) (show List.Nodup ((["pair"]:List Str)++(["book" ,"row" ,"state" ,"ticks" ,"event" ,"told"]:List Str)) from by decide +kernel)
   ·refine ek ?_
    exact ai uM hr (ac (ad 0) (ac (ad 2) (ac (ad 4) af)))
   ·intro C s₃ H₃ fp
    exact ak 0 (show List.Nodup (["pair" ,"book" ,"row" ,"state" ,"ticks" ,"event" ,"told"]:List Str) from by decide +kernel)
   ·intro C s₃ H₃ fp
    exact fR
   intro C s₃ H₃ fp
   refine aw ?_
   refine ac ?_ (ac (ag (ad 0) ae) af)
   exact ao aD (ad 4) (ag (ad 0) ae)
  refine nA ?_
  refine aj ?_ ?_
  ·refine aA ?_ ?_
   ·exact ai uK hr (ac (ad 0) (ac (ad 2) (ac (ad 4) af)))
   exact ak 2 tS.nd
  refine al ?_
  refine cB ?_ ?_ aV
  ·exact aB (dv hr) (ag (ad 4) ae) aF
  refine al ?_
  refine aA ?_ ?_
  ·exact ao aD (ad 3) (ag (ad 4) ae)
  exact ak 3 tS.nd
 refine jk ?_
 refine al ?_
 refine av ?_
 exact il gR tL (ac (ad 5) af)
abbrev dH:ML:=top 38
theorem rT:k4 ["state","many","alarm","count","of_alarm","of_count"] ["state","many"] (i6 dH):=rW
theorem iE(qS:n6 P w K mg base k "alarm_tick" ["state"] aK)(qT:n6 P w K mg base k "count_tick" ["state"] aL)(t9:sj K mg "DAY" cY)(Fn:rJ K "ring_count" "ring_count" dH f fd):l7 P w K mg base q8 (k+1) f fd ["state","many"] (rL K aZ):=by
 refine aq Fn rT ?_
 intro _ _ _ _ _ _ hr
 refine aj ?_ ?_
 ·refine aA ?_ ?_
  ·exact ai qS hr (ac (ad 0) af)
  exact ak 2 rT.nd
 refine aj ?_ ?_
 ·refine aA ?_ ?_
  ·exact ai qT hr (ac (ad 0) af)
  exact ak 3 rT.nd
 refine aj ?_ ?_
 ·refine aA ?_ ?_
  ·refine eS ?_ ae ?_
   ·refine eV ?_
    refine hW ?_ ?_
    ·exact aB eU (ad 2) aO
    refine f_ ?_
    exact aB gv (ad 2) (ad 1)
   refine ao aD ?_ ae
   refine ao bQ ?_ (au t9)
   exact ao bJ (ad 1) (ad 2)
  exact ak 4 rT.nd
 refine aj ?_ ?_
 ·refine aA ?_ ?_
  ·refine eS ?_ ae ae
   refine eV ?_
   refine hW ?_ ?_
   ·exact aB eU (ad 3) aO
   refine hW ?_ ?_
   ·exact aB gv (ad 3) (ad 1)
   refine f_ ?_
   exact aB (pM hr) (ad 3) (ad 2)
  exact ak 5 rT.nd
 refine al ?_
 refine av ?_
 exact ao aD (ad 4) (ad 5)
abbrev cg:ML:=top 60
theorem fG:k4 ["book","state","many"] ["book","state","many"] (i6 cg):=rW
theorem fH(uN:n6 P w K mg base k "ring_count" ["state","many"] aZ)(rn:n6 P w K mg base k "stretches" ["book","state","many"] aI)(Ew:mg "sum" = none)(Fn:rJ K "how_many_rings" "how_many_rings" cg f fd):l7 P w K mg base q8 (k+1) f fd ["book","state","many"] (rL K bn):=by
 refine aq Fn fG ?_
 intro _ _ _ _ _ _ hr
 refine al ?_
 refine av ?_
 refine pO rfl Ew ?_
 refine kJ (T:=["stretch"]) rfl ?_ ?_ ?_ ?_ (r_ (by decide)) (show List.Nodup ((["stretch"]:List Str)++(["book" ,"state" ,"many"]:List Str)) from by decide +kernel)
 ·refine ek ?_
  exact ai rn hr (ac (ad 0) (ac (ad 1) (ac (ad 2) af)))
 ·intro C s₃ H₃ fp
  exact ak 0 (show List.Nodup (["stretch" ,"book" ,"state" ,"many"]:List Str) from by decide +kernel)
 ·intro C s₃ H₃ fp
  exact fR
 intro C s₃ H₃ fp
 refine ai uN hr ?_
 exact ac (ag (ad 0) ae) (ac (ag (ad 0) ae) af)
abbrev fh:ML:=top 63
theorem kA:k4 ["book","state","event"] ["book","state","event"] (i6 fh):=rW
theorem j9(sL:n6 P w K mg base k "how_many_rings" ["book","state","many"] bn)(Fn:rJ K "rings_by" "rings_by" fh f fd):l7 P w K mg base q8 (k+1) f fd ["book","state","event"] (rL K cj):=by
 refine aq Fn kA ?_
 intro _ _ _ _ _ _ hr
 refine al ?_
 refine av ?_
 refine eS ?_ ?_ ae
 ·exact aB (dv hr) (ag (ad 2) ae) aF
 refine ai sL hr ?_
 exact ac (ad 0) (ac (ad 1) (ac (ag (ad 2) ae) af))
abbrev cU:ML:=inClass (top 62) 4
theorem sW:k4 ["self","event","behind","rung"] ["self","event"] (i6 cU):=rW
theorem gF(uK:n6 P w K mg base k "gone" ["book","state","event"] cN)(v5:n6 P w K mg base k "rings_by" ["book","state","event"] cj){C:Nat}(cl:wA K C)(v6:rA K C "book")(uO:rA K C "past")(q_:rA K C "present")(t_:rA K C "rung")(Fn:rJ K "happen" "Watch.happen" cU f fd):l7 P w K mg base q8 (k+1) f fd ["self","event"] (CY K 0 (aM C)):=by
 refine fv (j:=0) Fn sW ?_
 intro _ _ _ _ _ _ hr
 refine cw ?_ ?_
 ·refine fD ?_
  refine aA ?_ ?_
  ·refine ai uK hr ?_
   refine ac ?_ ?_
   ·exact dg cl v6 (ad 0)
   refine ac ?_ (ac (ad 1) af)
   exact dg cl q_ (ad 0)
  exact ak 2 sW.nd
 refine cw ?_ ?_
 ·refine fD ?_
  refine aA ?_ ?_
  ·refine ao aD ?_ ?_
   ·exact dg cl t_ (ad 0)
   refine ai v5 hr ?_
   refine ac ?_ ?_
   ·exact dg cl v6 (ad 0)
   refine ac ?_ (ac (ad 1) af)
   exact dg cl q_ (ad 0)
  exact ak 3 sW.nd
 refine cw ?_ ?_
 ·refine pJ 0 cl uO ?_
  refine aw ?_
  refine ac (ad 1) ?_
  refine ac ?_ ?_
  ·exact dg cl q_ (ad 0)
  refine ac ?_ af
  exact dg cl t_ (ad 0)
 refine cw ?_ ?_
 ·exact ir 0 cl q_ (ad 2)
 refine bR ?_
 exact ir 0 cl t_ (ad 3)
abbrev dI:ML:=inClass (top 62) 1
theorem iD:k4 ["self","button"] ["self","button"] (i6 dI):=rW
theorem iR{C:Nat}(cl:wA K C)(sy:u5 P w K mg base k C "happen" ["self","event"] (aM C))(Fn:rJ K "down" "Watch.down" dI f fd):l7 P w K mg base q8 (k+1) f fd ["self","button"] (CY K 0 (bg C)):=by
 refine fv (j:=0) Fn iD ?_
 intro _ _ _ _ _ _ hr
 refine bR ?_
 refine lq 0 cl sy hr ?_
 refine ac ?_ af
 exact aw (ac aF (ac (ad 1) af))
abbrev df:ML:=inClass (top 62) 3
theorem ip:k4 ["self","many"] ["self","many"] (i6 df):=rW
theorem ic{C:Nat}(cl:wA K C)(sy:u5 P w K mg base k C "happen" ["self","event"] (aM C))(Fn:rJ K "ticks" "Watch.ticks" df f fd):l7 P w K mg base q8 (k+1) f fd ["self","many"] (CY K 0 (bG C)):=by
 refine fv (j:=0) Fn ip ?_
 intro _ _ _ _ _ _ hr
 refine bR ?_
 refine lq 0 cl sy hr ?_
 refine ac ?_ af
 exact aw (ac aF (ac (ad 1) af))
abbrev fo:ML:=inClass (top 62) 2
theorem ky:k4 ["self","button"] ["self","button"] (i6 fo):=rW
theorem kG{C:Nat}(cl:wA K C)(sy:u5 P w K mg base k C "happen" ["self","event"] (aM C))(Fn:rJ K "up" "Watch.up" fo f fd):l7 P w K mg base q8 (k+1) f fd ["self","button"] (CY K 0 (bK C)):=by
 refine fv (j:=0) Fn ky ?_
 intro _ _ _ _ _ _ hr
 refine bR ?_
 refine lq 0 cl sy hr ?_
 refine ac ?_ af
 exact aw (ac aF (ac (ad 1) af))
abbrev di:ML:=top 78
theorem iB:k4 ["_law_watch","_law_event_here"] ["_law_watch","_law_event_here"] (i6 di):=rW
theorem iC{C:Nat}(cl:wA K C)(Bv:u5 P w K mg base k C "down" ["self","button"] (bg C))(zN:u5 P w K mg base k C "ticks" ["self","many"] (bG C))(HQ:u5 P w K mg base k C "up" ["self","button"] (bK C))(Fn:rJ K "_law_box_do" "_law_box_do" di f fd):l7 P w K mg base q8 (k+1) f fd ["_law_watch","_law_event_here"] (CY K 0 (bi C)):=by
 refine fv (j:=0) Fn iB ?_
 intro _ _ _ _ _ _ hr
 refine cw ?_ ?_
 ·refine pF ?_ ?_ jR
  ·exact aB (dv hr) (ag (ad 1) ae) aF
  refine bR ?_
  exact jA 0 cl Bv hr (ac (ag (ad 1) ae) af)
 refine cw ?_ ?_
 ·refine pF ?_ ?_ jR
  ·exact aB (dv hr) (ag (ad 1) ae) aF
  refine bR ?_
  exact jA 0 cl HQ hr (ac (ag (ad 1) ae) af)
 refine bR ?_
 exact jA 0 cl zN hr (ac (ag (ad 1) ae) af)
abbrev dN:ML:=inClass (top 62) 7
theorem iN:k4 ["self"] ["self"] (i6 dN):=rW
theorem iK{C:Nat}(cl:wA K C)(t_:rA K C "rung")(Fn:rJ K "rang" "Watch.rang" dN f fd):l7 P w K mg base q8 (k+1) f fd ["self"] (rL K (bS C)):=by
 refine aq Fn iN ?_
 intro _ _ _ _ _ _ hr
 refine al ?_
 refine av ?_
 exact dg cl t_ (ad 0)
abbrev en:ML:=inClass (top 62) 9
theorem jz:k4 ["self"] ["self"] (i6 en):=rW
theorem j3(tL:mg "tuple" = none){C:Nat}(cl:wA K C)(uO:rA K C "past")(Fn:rJ K "row" "Watch.row" en f fd):l7 P w K mg base q8 (k+1) f fd ["self"] (rL K (bN C)):=by
 refine aq Fn jz ?_
 intro _ _ _ _ _ _ hr
 refine al ?_
 refine av ?_
 refine il gR tL ?_
 refine ac ?_ af
 refine pq 0 C ?_
 refine kJ (T:=["step"]) rfl ?_ ?_ ?_ (fun C s₃ H₃ fp=>(ag (ad 0) ae)) (r_ (by decide)) (show List.Nodup ((["step"]:List Str)++(["self"]:List Str)) from by decide +kernel)
 ·refine qd ?_
  exact dg cl uO (ad 0)
 ·intro C s₃ H₃ fp
  exact ak 0 (show List.Nodup (["step" ,"self"]:List Str) from by decide +kernel)
 intro C s₃ H₃ fp
 exact fR
abbrev dl:ML:=inClass (top 62) 6
theorem im:k4 ["self"] ["self"] (i6 dl):=rW
theorem iy{C:Nat}(cl:wA K C)(q_:rA K C "present")(Fn:rJ K "state" "Watch.state" dl f fd):l7 P w K mg base q8 (k+1) f fd ["self"] (rL K (bE C)):=by
 refine aq Fn im ?_
 intro _ _ _ _ _ _ hr
 refine al ?_
 refine av ?_
 exact dg cl q_ (ad 0)
abbrev b_:ML:=inClass (top 62) 0
theorem fK:k4 ["self","book"] ["self","book"] (i6 b_):=rW
theorem fy(tM:n6 P w K mg base k "begun" ["book"] bY){C:Nat}(cl:wA K C)(v6:rA K C "book")(uO:rA K C "past")(q_:rA K C "present")(t_:rA K C "rung")(Fn:rJ K "__init__" "Watch.__init__" b_ f fd):l7 P w K mg base q8 (k+1) f fd ["self","book"] (HV K 2 2 C "past" (aN C)):=by
 refine FR Fn fK ?_
 intro _ _ _ _ _ _ hr
 refine zp ?_ ?_
 ·exact ir 0 cl v6 (ad 1)
 refine zp ?_ ?_
 ·refine ir 0 cl q_ ?_
  exact ai tM hr (ac (ad 1) af)
 refine zp ?_ ?_
 ·exact ir 0 cl t_ ae
 exact Fv 0 cl uO
abbrev fw:ML:=top 79
theorem tj:k4 ["_law_script","_law_number","_law_one","_law_books","_law_rows","_law_watches","_law_turn","_law_watch","_law_row_here","_law_book_here","_law_many"] ["_law_script"] (i6 fw):=rW
theorem pX(ue:n6 P w K mg base k "_law_book" ["_law_number"] bP)(qO:n6 P w K mg base k "_law_drawn" ["_law_number","_law_k"] aH)(sA:n6 P w K mg base k "_law_mixed" ["_law_script","_law_k"] aX)(uP:n6 P w K mg base k "_law_ready" ["_law_book_here","_law_number"] bT)(v7:n6 P w K mg base k "_law_row" ["_law_number","_law_most"] bL)(zO:n6 P w K mg base k "after" ["book","state","row"] fN)(tM:n6 P w K mg base k "begun" ["book"] bY)(zP:n6 P w K mg base k "story" ["book","row"] cX)(uA:mg "len" = none)(rK:mg "range" = none)(Ce:mg "zip" = none){C:Nat}(cl:wA K C)(Bw:yt P w K mg base k C "rang" ["self"] (bS C))(Ex:yt P w K mg base k C "row" ["self"] (bN C))(zQ:yt P w K mg base k C "state" ["self"] (bE C))(ur:Ck P w K mg base k "_law_box_do" ["_law_watch","_law_event_here"] 0 (bi C)){fI:Ml}{fdI:Nl}{kI:Nat}(MK:Mk K C fI)(FI:l7 P w K mg base q8 kI fI fdI ["self","book"] (HV K 2 2 C "past" (aN C)))(BI:Binds K fdI ["self","book"] [])(mgW:mg "Watch" = some (.ref C))(hkI:kI+1<=k)(Fn:rJ K "law" "law" fw f fd):l7 P w K mg base q8 (k+1) f fd ["_law_script"] (rL K (nT C)):=by
 refine aq Fn tj ?_
 intro _ _ _ _ _ _ hr
 have hrI:=hr.mono hkI
 refine aj ?_ ?_
 ·refine aA ?_ ?_
  ·exact ai sA hr (ac (ad 0) (ac ae af))
  exact ak 1 tj.nd
 refine aj ?_ ?_
 ·refine aA ?_ ?_
  ·refine ai uP hr ?_
   refine ac ?_ ?_
   ·exact ai ue hr (ac (ad 1) af)
   refine ac ?_ af
   refine ao bQ ?_ ae
   exact ai qO hr (ac (ad 1) (ac ae af))
  exact ak 2 tj.nd
 refine aj ?_ ?_
 ·refine aA ?_ ?_
  ·refine aw ?_
   refine ac (ad 2) ?_
   refine ac ?_ (ac (ad 2) af)
   refine ai ue hr ?_
   refine ac ?_ af
   exact ai sA hr (ac (ad 0) (ac ae af))
  exact ak 3 tj.nd
 refine aj ?_ ?_
 ·refine mr (T:=["_law_k"]) rfl (i:=4) tj.nd ?_ ?_ ?_ ?_ (r_ (by decide)) (show List.Nodup ((["_law_k"]:List Str)++(["_law_script" ,"_law_number" ,"_law_one" ,"_law_books" ,"_law_rows" ,"_law_watches" ,"_law_turn" ,"_law_watch" ,"_law_row_here" ,"_law_book_here" ,"_law_many"]:List Str)) from by decide +kernel)
  ·exact gN rK ae
  ·intro C s₃ H₃ fp
   exact ak 0 (show List.Nodup (["_law_k" ,"_law_script" ,"_law_number" ,"_law_one" ,"_law_books" ,"_law_rows" ,"_law_watches" ,"_law_turn" ,"_law_watch" ,"_law_row_here" ,"_law_book_here" ,"_law_many"]:List Str) from by decide +kernel)
  ·intro C s₃ H₃ fp
   exact fR
  intro C s₃ H₃ fp
  refine ai v7 hr ?_
  refine ac ?_ (ac ae af)
  refine ai sA hr ?_
  refine ac (ad 1) ?_
  refine ac ?_ af
  exact ao aD ae (ad 0)
 refine oa 9 5 ".h9" (oJ 5 rfl (show List.Nodup (["_law_script" ,"_law_number" ,"_law_one" ,"_law_books" ,"_law_rows" ,"_law_watches" ,"_law_turn" ,"_law_watch" ,"_law_row_here" ,".h9" ,"_law_many"]:List Str) from by decide +kernel) (ek (ad 3)) (fun C s₃ H₃ fp=>(ak 0 (show List.Nodup (["_law_book_here" ,"_law_script" ,"_law_number" ,"_law_one" ,"_law_books" ,"_law_rows" ,"_law_watches" ,"_law_turn" ,"_law_watch" ,"_law_row_here" ,".h9" ,"_law_many"]:List Str) from by decide +kernel))) MK FI BI hrI mgW (fun C s₃ H₃ fp=>(ac (ad 0) af)) (fun _ _ _ _=>rfl) (show List.Nodup ((["_law_book_here"]:List Str)++(["_law_script" ,"_law_number" ,"_law_one" ,"_law_books" ,"_law_rows" ,"_law_watches" ,"_law_turn" ,"_law_watch" ,"_law_row_here" ,".h9" ,"_law_many"]:List Str)) from by decide +kernel)) ?_
 refine cw ?_ ?_
 ·refine pU PassesOwn.never rfl ?_ ?_ ?_
  ·exact nK rK ae
  ·exact ak 6 tj.nd
  refine bR ?_
  refine pB PassesOwn.never rfl (Dm 5 Ce (ad 4)) ?_ ?_
  ·refine lh rfl ?_
   refine cW ?_ ?_
   ·exact ak 7 tj.nd
   refine cW ?_ jG
   exact ak 8 tj.nd
  refine oA 5 7 ?_
  refine bR ?_
  refine nk ?_ bU (nO 7 ur hr (ac (ad 7) (ac (ag (ad 8) (ad 6)) af)) Jg) aO ?_ jR
  ·refine aB kF (ad 6) ?_
   exact bF hX uA (ac (ad 8) af)
  refine bR ?_
  refine fD ?_
  exact av dW
 refine cw ?_ ?_
 ·refine fD ?_
  refine lR PassesOwn.never rfl ?_ ?_ ?_
  ·exact pe Ce (ad 5) (ad 3) (ad 4)
  ·refine lh rfl ?_
   refine cW ?_ ?_
   ·exact ak 7 tj.nd
   refine cW ?_ ?_
   ·exact ak 9 tj.nd
   refine cW ?_ jG
   exact ak 8 tj.nd
  refine aj ?_ ?_
  ·refine mr (T:=["_law_ticks" ,"_law_word"]) rfl (i:=10) tj.nd ?_ ?_ ?_ (fun C s₃ H₃ fp=>(ad 1)) (Cz (by intro f hf;simp only[Mu,List.not_mem_nil,or_false] at hf;rcases hf with rfl | rfl<;>exact r_ (by decide))) (show List.Nodup ((["_law_ticks" ,"_law_word"]:List Str)++(["_law_script" ,"_law_number" ,"_law_one" ,"_law_books" ,"_law_rows" ,"_law_watches" ,"_law_turn" ,"_law_watch" ,"_law_row_here" ,"_law_book_here" ,"_law_many"]:List Str)) from by decide +kernel)
   ·refine ek ?_
    exact ai zP hr (ac (ad 9) (ac (ad 8) af))
   ·intro C s₃ H₃ fp
    refine lh rfl ?_
    refine cW ?_ ?_
    ·exact ak 0 (show List.Nodup (["_law_ticks" ,"_law_word" ,"_law_script" ,"_law_number" ,"_law_one" ,"_law_books" ,"_law_rows" ,"_law_watches" ,"_law_turn" ,"_law_watch" ,"_law_row_here" ,"_law_book_here" ,"_law_many"]:List Str) from by decide +kernel)
    refine cW ?_ jG
    exact ak 1 (show List.Nodup (["_law_ticks" ,"_law_word" ,"_law_script" ,"_law_number" ,"_law_one" ,"_law_books" ,"_law_rows" ,"_law_watches" ,"_law_turn" ,"_law_watch" ,"_law_row_here" ,"_law_book_here" ,"_law_many"]:List Str) from by decide +kernel)
   intro C s₃ H₃ fp
   refine qj ?_
   exact aB (dv hr) (ad 1) aF
  refine aj ?_ ?_
  ·refine cB ?_ ?_ aV
   ·refine eV ?_
    refine hW ?_ ?_
    ·refine aB (oI hr) ?_ ?_
     ·exact jM cl zQ hr (ad 7)
     refine ai zO hr ?_
     refine ac (ad 9) ?_
     refine ac ?_ (ac (ad 8) af)
     exact ai tM hr (ac (ad 9) af)
    refine f_ ?_
    refine aB (pG hr) ?_ ?_
    ·exact jM cl Bw hr (ad 7)
    exact bF hX uA (ac (ad 10) af)
   refine al ?_
   exact av dW
  refine al ?_
  refine cB ?_ ?_ aV
  ·refine aB (oI hr) ?_ (ad 8)
   exact jM cl Ex hr (ad 7)
  refine al ?_
  exact av dW
 refine bR ?_
 refine fD ?_
 exact av dW
end HW
namespace HW
open PySem PySem.Spec PyProof.Rows L2
theorem yO(K:Mj)(H:Hp):∀ns:List Int,k9 K H (ns.map .int) (ns.map V.int)
 | []=>rfl
 | n::ns=>⟨.int n,_,rfl,rfl,yO K H ns⟩
def gq:LD->OD:=fun ds=>open Classical in if ∃ns:List Int,ds=[.fro (ns.map .int)] then some (.bl true) else none
theorem Dx(C:Nat):∀ds d,gq ds=some d->nT C ds=some d:=fun ds d h=>by
 unfold gq at h
 split at h
 ·rename_i z
  obtain⟨ns,rfl⟩:=z
  rw[EM C ns];exact h
 ·cases h
theorem DM(ns:List Int)(_:ns.length<=63):gq [.fro (ns.map .int)]=some (.bl true):=Mo ⟨ns,rfl⟩
theorem all_mk{l:W.OpenLaw}{w:MH}{K:Mj}{h:MI}{mg:Str->Me Mg}{fa:Ml}
  {C:Ml}
  {f64:Ml} {od64 an64:Me Ml} {sl64:Array (Me Mg)} {oc64 kV64 dc64 pm64 cd64 ct64:Mg}
  {Ey:Tok}
  {Ez:Tok}
  {EA:Tok}
  {HR:Tok}
  {zR:Tok}
  {FW:Tok}
  {FX:Tok}
  {FY:Tok}
  {FZ:Tok}
  {zS:Tok}
  {F_:Tok}
  {v8:Ml} {Bx:Nat} {By:Array (Me Mg)} {Bz BA BB BC BD BE:Tok}
  {yl:Ml} {EB:Nat} {C6 C7 C8 C9 C_ Dc Dd De Df Dg BF BG BH:Tok}
  {f0 f1 f2 f3 f4 f5 f6 f7 f8 f9 f10 f11 f12 f13 f14 f15 f16 f17 f18 f19 f20 f21 f22 f23 f24 f25 f26 f27 f28 f29 f30 f31 f32 f33 f34 f35 f36 f37 f38 f39 f40 f41 f42 f43 f44 f45 f46 f47 f48 f49 f50 f51 f52 f53 f54 f55 f56 f57 f58 f59 f60 f61 f62 f63:Ml}
  (X:K.In h) (G:h.Ns mainGlobals mg) (hfa:mg "law" = some (.ref fa))
  (aC:W.nsIn K mainGlobals "Watch" = some (some (.ref C))) (pg:W.plainGet K C Str.empty=true) (hd:W.hasDictIn K C=true) (po:W.plainOver K C=true) (sa:W.findIn K (.ref C) "__setattr__" = some (some (.builtin "object.__setattr__"))) (mkC:W.makesIn K C=true) (kc:W.keepIn K (.ref C)=true)
  (v6:W.findIn K (.ref C) "book" = some none)
  (uO:W.findIn K (.ref C) "past" = some none)
  (q_:W.findIn K (.ref C) "present" = some none)
  (t_:W.findIn K (.ref C) "rung" = some none)
  (a0:sC K "_law_drawn" dL f0)
  (a1:sC K "_law_book" eB f1)
  (a2:sC K "_law_cell_at" cV f2)
  (a3:sC K "_law_mixed" dC f3)
  (a4:sC K "_law_ready" dB f4)
  (a5:sC K "_law_event" dE f5)
  (a6:sC K "_law_row" fj f6)
  (a7:sC K "is_holding" dD f7)
  (a8:sC K "is_short" fk f8)
  (a9:sC K "put" oh f9)
  (a10:sC K "alarm_hour_on" cA f10)
  (a11:sC K "alarm_minute_on" bX f11)
  (a12:sC K "alarm_turned" cM f12)
  (a13:sC K "set_to" iu f13)
  (a14:sC K "count_minute_on" bZ f14)
  (a15:sC K "count_second_on" bW f15)
  (a16:sC K "count_turned" cP f16)
  (a17:sC K "filled" gX f17)
  (a18:sC K "hour_on" fS f18)
  (a19:sC K "lap_kept" eX f19)
  (a20:sC K "laps_turned" dj f20)
  (a21:sC K "minute_on" eL f21)
  (a22:sC K "nothing" fQ f22)
  (a23:sC K "to_zero" gh f23)
  (a24:sC K "press_done" dJ f24)
  (a25:sC K "let_go" hZ f25)
  (a26:sC K "pushed" gT f26)
  (a27:sC K "count_on" eY f27)
  (a28:sC K "held_on" gi f28)
  (a29:sC K "ticks_to_back" cC f29)
  (a30:sC K "idle_on" fX f30)
  (a31:sC K "laps_on" fT f31)
  (a32:sC K "alarm_tick" dO f32)
  (a33:sC K "count_tick" dG f33)
  (a34:sC K "last_ring" eG f34)
  (a35:sC K "ring_on" fZ f35)
  (a36:sC K "counted" gk f36)
  (a37:sC K "goes_back" ej f37)
  (a38:sC K "ticks_to_long" cD f38)
  (a39:sC K "turn_tick" eK f39)
  (a40:sC K "turned" g_ f40)
  (a41:sC K "behind_turn" db f41)
  (a42:sC K "stretches" eh f42)
  (a43:sC K "ticked" gW f43)
  (a44:sC K "gone" lA f44)
  (a45:sC K "after" jW f45)
  (a46:sC K "begun" jT f46)
  (a47:sC K "ring_ticks" dP f47)
  (a48:sC K "turn_sign" eM f48)
  (a49:sC K "tick_happenings" bV f49)
  (a50:sC K "happenings" dM f50)
  (a51:sC K "story" jN f51)
  (a52:sC K "ring_count" dH f52)
  (a53:sC K "how_many_rings" cg f53)
  (a54:sC K "rings_by" fh f54)
  (a55:EH K C "happen" "Watch.happen" cU f55)
  (a56:EH K C "down" "Watch.down" dI f56)
  (a57:EH K C "ticks" "Watch.ticks" df f57)
  (a58:EH K C "up" "Watch.up" fo f58)
  (a59:sC K "_law_box_do" di f59)
  (a60:EH K C "rang" "Watch.rang" dN f60)
  (a61:EH K C "row" "Watch.row" en f61)
  (a62:EH K C "state" "Watch.state" dl f62)
  (a63:EH K C "__init__" "Watch.__init__" b_ f63)
  (a64:W.nsIn K mainGlobals "law" = some (some (.ref f64))) (l64:K.lookup f64=some ⟨oc64,od64,.func (W.fnOf "law" "law" (sN fw) (rG fw) (i6 fw) .none kV64 dc64 pm64 an64 cd64 ct64),sl64⟩) (c64:W.codeIn K cd64 "law" = true) (k64:W.keepIn K (.ref f64)=true)
  (JG:W.nsIn K mainGlobals "len" = some none)
  (HS:W.nsIn K mainGlobals "list" = some none)
  (JH:W.nsIn K mainGlobals "max" = some none)
  (Ga:W.nsIn K mainGlobals "range" = some none)
  (JI:W.nsIn K mainGlobals "set" = some none)
  (EC:W.nsIn K mainGlobals "sorted" = some none)
  (JJ:W.nsIn K mainGlobals "sum" = some none)
  (Gb:W.nsIn K mainGlobals "tuple" = some none)
  (JK:W.nsIn K mainGlobals "zip" = some none)
  (q_ALARM:W.nsIn K mainGlobals "ALARM" = some (some (.int 2 Ey)))
  (q_CLOCK:W.nsIn K mainGlobals "CLOCK" = some (some (.int 1 Ez)))
  (q_COUNT:W.nsIn K mainGlobals "COUNT" = some (some (.int 4 EA)))
  (q_DAY:W.nsIn K mainGlobals "DAY" = some (some (.int 86400 HR)))
  (q_FULL_RING:W.nsIn K mainGlobals "FULL_RING" = some (some (.int 10 zR)))
  (q_HELD:W.nsIn K mainGlobals "HELD" = some (some (.int 6 FW)))
  (q_IDLE:W.nsIn K mainGlobals "IDLE" = some (some (.int 7 FX)))
  (q_LAPS:W.nsIn K mainGlobals "LAPS" = some (some (.int 3 FY)))
  (q_MODE:W.nsIn K mainGlobals "MODE" = some (some (.int 0 FZ)))
  (q_MOST_KEPT:W.nsIn K mainGlobals "MOST_KEPT" = some (some (.int 4 zS)))
  (q_RING:W.nsIn K mainGlobals "RING" = some (some (.int 5 F_)))
  (q_PRESSES:W.nsIn K mainGlobals "PRESSES" = some (some (.ref v8)))
  (rs_PRESSES:K.lookup v8=some ⟨.type "tuple",none,.seq #[.str (oS "a") Bz,.str (oS "b") BA,.str (oS "c") BB,.str (oS "A") BC,.str (oS "B") BD,.str (oS "C") BE] Bx,By⟩)
  (q_STEPS:W.nsIn K mainGlobals "STEPS" = some (some (.ref yl)))
  (r_STEPS:K.lookup yl=some ⟨.type "dict",none,.dict (entries w [(oS "none",C6,.ref f22),(oS "hour",C7,.ref f18),(oS "minute",C8,.ref f21),(oS "zero",C9,.ref f23),(oS "ahour",C_,.ref f10),(oS "aminute",Dc,.ref f11),(oS "alarm",Dd,.ref f12),(oS "run",De,.ref f20),(oS "lap",Df,.ref f19),(oS "cminute",Dg,.ref f14),(oS "csecond",BF,.ref f15),(oS "full",BG,.ref f17),(oS "count",BH,.ref f16)]).toArray EB,#[]⟩) :
  ∃fd:Nl,(∀(s:Mi) (v:Mg),BindsTo s fd ⟨[v],[]⟩ [("_law_script",v)])/\∀base:MI,K.In base->base.Ns mainGlobals mg->l7 l.prog w K mg base q8 13 fa fd ["_law_script"] (rL K gq):=by
 have e:=hfa.symm.trans (MF X G a64)
 cases e
 have cl:wA K C:=⟨pg,hd,po,sa⟩
 have mgW:=MF X G aC
 obtain⟨d0,F0,a0⟩:=sE a0
 have b0:=F0.binds (ps:=["_law_number","_law_k"]) fun | _,_,_,_,_,_,[_,_],_=>rfl
 have g0:=MF X G a0
 obtain⟨d1,F1,a1⟩:=sE a1
 have b1:=F1.binds (ps:=["_law_number"]) fun | _,_,_,_,_,_,[_],_=>rfl
 have g1:=MF X G a1
 obtain⟨d2,F2,a2⟩:=sE a2
 have b2:=F2.binds (ps:=["_law_script","_law_k"]) fun | _,_,_,_,_,_,[_,_],_=>rfl
 have g2:=MF X G a2
 obtain⟨d3,F3,a3⟩:=sE a3
 have b3:=F3.binds (ps:=["_law_script","_law_k"]) fun | _,_,_,_,_,_,[_,_],_=>rfl
 have g3:=MF X G a3
 obtain⟨d4,F4,a4⟩:=sE a4
 have b4:=F4.binds (ps:=["_law_book_here","_law_number"]) fun | _,_,_,_,_,_,[_,_],_=>rfl
 have g4:=MF X G a4
 obtain⟨d5,F5,a5⟩:=sE a5
 have b5:=F5.binds (ps:=["_law_number"]) fun | _,_,_,_,_,_,[_],_=>rfl
 have g5:=MF X G a5
 obtain⟨d6,F6,a6⟩:=sE a6
 have b6:=F6.binds (ps:=["_law_number","_law_most"]) fun | _,_,_,_,_,_,[_,_],_=>rfl
 have g6:=MF X G a6
 obtain⟨d7,F7,a7⟩:=sE a7
 have b7:=F7.binds (ps:=["state","button"]) fun | _,_,_,_,_,_,[_,_],_=>rfl
 have g7:=MF X G a7
 obtain⟨d8,F8,a8⟩:=sE a8
 have b8:=F8.binds (ps:=["state","button"]) fun | _,_,_,_,_,_,[_,_],_=>rfl
 have g8:=MF X G a8
 obtain⟨d9,F9,a9⟩:=sE a9
 have b9:=F9.binds (ps:=["state","place","part"]) fun | _,_,_,_,_,_,[_,_,_],_=>rfl
 have g9:=MF X G a9
 obtain⟨d10,F10,a10⟩:=sE a10
 have b10:=F10.binds (ps:=["state"]) fun | _,_,_,_,_,_,[_],_=>rfl
 have g10:=MF X G a10
 obtain⟨d11,F11,a11⟩:=sE a11
 have b11:=F11.binds (ps:=["state"]) fun | _,_,_,_,_,_,[_],_=>rfl
 have g11:=MF X G a11
 obtain⟨d12,F12,a12⟩:=sE a12
 have b12:=F12.binds (ps:=["state"]) fun | _,_,_,_,_,_,[_],_=>rfl
 have g12:=MF X G a12
 obtain⟨d13,F13,a13⟩:=sE a13
 have b13:=F13.binds (ps:=["state","minute","second"]) fun | _,_,_,_,_,_,[_,_,_],_=>rfl
 have g13:=MF X G a13
 obtain⟨d14,F14,a14⟩:=sE a14
 have b14:=F14.binds (ps:=["state"]) fun | _,_,_,_,_,_,[_],_=>rfl
 have g14:=MF X G a14
 obtain⟨d15,F15,a15⟩:=sE a15
 have b15:=F15.binds (ps:=["state"]) fun | _,_,_,_,_,_,[_],_=>rfl
 have g15:=MF X G a15
 obtain⟨d16,F16,a16⟩:=sE a16
 have b16:=F16.binds (ps:=["state"]) fun | _,_,_,_,_,_,[_],_=>rfl
 have g16:=MF X G a16
 obtain⟨d17,F17,a17⟩:=sE a17
 have b17:=F17.binds (ps:=["state"]) fun | _,_,_,_,_,_,[_],_=>rfl
 have g17:=MF X G a17
 obtain⟨d18,F18,a18⟩:=sE a18
 have b18:=F18.binds (ps:=["state"]) fun | _,_,_,_,_,_,[_],_=>rfl
 have g18:=MF X G a18
 obtain⟨d19,F19,a19⟩:=sE a19
 have b19:=F19.binds (ps:=["state"]) fun | _,_,_,_,_,_,[_],_=>rfl
 have g19:=MF X G a19
 obtain⟨d20,F20,a20⟩:=sE a20
 have b20:=F20.binds (ps:=["state"]) fun | _,_,_,_,_,_,[_],_=>rfl
 have g20:=MF X G a20
 obtain⟨d21,F21,a21⟩:=sE a21
 have b21:=F21.binds (ps:=["state"]) fun | _,_,_,_,_,_,[_],_=>rfl
 have g21:=MF X G a21
 obtain⟨d22,F22,a22⟩:=sE a22
 have b22:=F22.binds (ps:=["state"]) fun | _,_,_,_,_,_,[_],_=>rfl
 have g22:=MF X G a22
 obtain⟨d23,F23,a23⟩:=sE a23
 have b23:=F23.binds (ps:=["state"]) fun | _,_,_,_,_,_,[_],_=>rfl
 have g23:=MF X G a23
 obtain⟨d24,F24,a24⟩:=sE a24
 have b24:=F24.binds (ps:=["book","state","press"]) fun | _,_,_,_,_,_,[_,_,_],_=>rfl
 have g24:=MF X G a24
 obtain⟨d25,F25,a25⟩:=sE a25
 have b25:=F25.binds (ps:=["book","state","button"]) fun | _,_,_,_,_,_,[_,_,_],_=>rfl
 have g25:=MF X G a25
 obtain⟨d26,F26,a26⟩:=sE a26
 have b26:=F26.binds (ps:=["state","button"]) fun | _,_,_,_,_,_,[_,_],_=>rfl
 have g26:=MF X G a26
 obtain⟨d27,F27,a27⟩:=sE a27
 have b27:=F27.binds (ps:=["count","many"]) fun | _,_,_,_,_,_,[_,_],_=>rfl
 have g27:=MF X G a27
 obtain⟨d28,F28,a28⟩:=sE a28
 have b28:=F28.binds (ps:=["held","many"]) fun | _,_,_,_,_,_,[_,_],_=>rfl
 have g28:=MF X G a28
 obtain⟨d29,F29,a29⟩:=sE a29
 have b29:=F29.binds (ps:=["book","state"]) fun | _,_,_,_,_,_,[_,_],_=>rfl
 have g29:=MF X G a29
 obtain⟨d30,F30,a30⟩:=sE a30
 have b30:=F30.binds (ps:=["book","state","many"]) fun | _,_,_,_,_,_,[_,_,_],_=>rfl
 have g30:=MF X G a30
 obtain⟨d31,F31,a31⟩:=sE a31
 have b31:=F31.binds (ps:=["laps","many"]) fun | _,_,_,_,_,_,[_,_],_=>rfl
 have g31:=MF X G a31
 obtain⟨d32,F32,a32⟩:=sE a32
 have b32:=F32.binds (ps:=["state"]) fun | _,_,_,_,_,_,[_],_=>rfl
 have g32:=MF X G a32
 obtain⟨d33,F33,a33⟩:=sE a33
 have b33:=F33.binds (ps:=["state"]) fun | _,_,_,_,_,_,[_],_=>rfl
 have g33:=MF X G a33
 obtain⟨d34,F34,a34⟩:=sE a34
 have b34:=F34.binds (ps:=["state","many"]) fun | _,_,_,_,_,_,[_,_],_=>rfl
 have g34:=MF X G a34
 obtain⟨d35,F35,a35⟩:=sE a35
 have b35:=F35.binds (ps:=["state","many"]) fun | _,_,_,_,_,_,[_,_],_=>rfl
 have g35:=MF X G a35
 obtain⟨d36,F36,a36⟩:=sE a36
 have b36:=F36.binds (ps:=["book","state","many"]) fun | _,_,_,_,_,_,[_,_,_],_=>rfl
 have g36:=MF X G a36
 obtain⟨d37,F37,a37⟩:=sE a37
 have b37:=F37.binds (ps:=["book","state"]) fun | _,_,_,_,_,_,[_,_],_=>rfl
 have g37:=MF X G a37
 obtain⟨d38,F38,a38⟩:=sE a38
 have b38:=F38.binds (ps:=["book","state"]) fun | _,_,_,_,_,_,[_,_],_=>rfl
 have g38:=MF X G a38
 obtain⟨d39,F39,a39⟩:=sE a39
 have b39:=F39.binds (ps:=["book","state"]) fun | _,_,_,_,_,_,[_,_],_=>rfl
 have g39:=MF X G a39
 obtain⟨d40,F40,a40⟩:=sE a40
 have b40:=F40.binds (ps:=["book","state"]) fun | _,_,_,_,_,_,[_,_],_=>rfl
 have g40:=MF X G a40
 obtain⟨d41,F41,a41⟩:=sE a41
 have b41:=F41.binds (ps:=["book","state"]) fun | _,_,_,_,_,_,[_,_],_=>rfl
 have g41:=MF X G a41
 obtain⟨d42,F42,a42⟩:=sE a42
 have b42:=F42.binds (ps:=["book","state","many"]) fun | _,_,_,_,_,_,[_,_,_],_=>rfl
 have g42:=MF X G a42
 obtain⟨d43,F43,a43⟩:=sE a43
 have b43:=F43.binds (ps:=["book","state","many"]) fun | _,_,_,_,_,_,[_,_,_],_=>rfl
 have g43:=MF X G a43
 obtain⟨d44,F44,a44⟩:=sE a44
 have b44:=F44.binds (ps:=["book","state","event"]) fun | _,_,_,_,_,_,[_,_,_],_=>rfl
 have g44:=MF X G a44
 obtain⟨d45,F45,a45⟩:=sE a45
 have b45:=F45.binds (ps:=["book","state","row"]) fun | _,_,_,_,_,_,[_,_,_],_=>rfl
 have g45:=MF X G a45
 obtain⟨d46,F46,a46⟩:=sE a46
 have b46:=F46.binds (ps:=["book"]) fun | _,_,_,_,_,_,[_],_=>rfl
 have g46:=MF X G a46
 obtain⟨d47,F47,a47⟩:=sE a47
 have b47:=F47.binds (ps:=["state","many"]) fun | _,_,_,_,_,_,[_,_],_=>rfl
 have g47:=MF X G a47
 obtain⟨d48,F48,a48⟩:=sE a48
 have b48:=F48.binds (ps:=["state"]) fun | _,_,_,_,_,_,[_],_=>rfl
 have g48:=MF X G a48
 obtain⟨d49,F49,a49⟩:=sE a49
 have b49:=F49.binds (ps:=["book","state","many"]) fun | _,_,_,_,_,_,[_,_,_],_=>rfl
 have g49:=MF X G a49
 obtain⟨d50,F50,a50⟩:=sE a50
 have b50:=F50.binds (ps:=["book","state","event"]) fun | _,_,_,_,_,_,[_,_,_],_=>rfl
 have g50:=MF X G a50
 obtain⟨d51,F51,a51⟩:=sE a51
 have b51:=F51.binds (ps:=["book","row"]) fun | _,_,_,_,_,_,[_,_],_=>rfl
 have g51:=MF X G a51
 obtain⟨d52,F52,a52⟩:=sE a52
 have b52:=F52.binds (ps:=["state","many"]) fun | _,_,_,_,_,_,[_,_],_=>rfl
 have g52:=MF X G a52
 obtain⟨d53,F53,a53⟩:=sE a53
 have b53:=F53.binds (ps:=["book","state","many"]) fun | _,_,_,_,_,_,[_,_,_],_=>rfl
 have g53:=MF X G a53
 obtain⟨d54,F54,a54⟩:=sE a54
 have b54:=F54.binds (ps:=["book","state","event"]) fun | _,_,_,_,_,_,[_,_,_],_=>rfl
 have g54:=MF X G a54
 obtain⟨d55,F55,M55⟩:=Gn a55
 have b55:=F55.binds (ps:=["self","event"]) fun | _,_,_,_,_,_,[_,_],_=>rfl
 obtain⟨d56,F56,M56⟩:=Gn a56
 have b56:=F56.binds (ps:=["self","button"]) fun | _,_,_,_,_,_,[_,_],_=>rfl
 obtain⟨d57,F57,M57⟩:=Gn a57
 have b57:=F57.binds (ps:=["self","many"]) fun | _,_,_,_,_,_,[_,_],_=>rfl
 obtain⟨d58,F58,M58⟩:=Gn a58
 have b58:=F58.binds (ps:=["self","button"]) fun | _,_,_,_,_,_,[_,_],_=>rfl
 obtain⟨d59,F59,a59⟩:=sE a59
 have b59:=F59.binds (ps:=["_law_watch","_law_event_here"]) fun | _,_,_,_,_,_,[_,_],_=>rfl
 have g59:=MF X G a59
 obtain⟨d60,F60,M60⟩:=Gn a60
 have b60:=F60.binds (ps:=["self"]) fun | _,_,_,_,_,_,[_],_=>rfl
 obtain⟨d61,F61,M61⟩:=Gn a61
 have b61:=F61.binds (ps:=["self"]) fun | _,_,_,_,_,_,[_],_=>rfl
 obtain⟨d62,F62,M62⟩:=Gn a62
 have b62:=F62.binds (ps:=["self"]) fun | _,_,_,_,_,_,[_],_=>rfl
 obtain⟨d63,F63,M63⟩:=Gn a63
 have b63:=F63.binds (ps:=["self","book"]) fun | _,_,_,_,_,_,[_,_],_=>rfl
 have F64:=lL (st:=fw) l64 c64 k64
 have b64:=F64.binds (ps:=["_law_script"]) fun | _,_,_,_,_,_,[_],_=>rfl
 have g64:=MF X G a64
 have uA:=W.mg_none_of X G JG
 have Bu:=W.mg_none_of X G HS
 have tG:=W.mg_none_of X G JH
 have rK:=W.mg_none_of X G Ga
 have Eu:=W.mg_none_of X G JI
 have yk:=W.mg_none_of X G EC
 have Ew:=W.mg_none_of X G JJ
 have tL:=W.mg_none_of X G Gb
 have Ce:=W.mg_none_of X G JK
 have qY:sj K mg "ALARM" bh:=⟨_,.int 2,MF X G q_ALARM,⟨_,rfl⟩,fun H=>rfl⟩
 have qR:sj K mg "CLOCK" a_:=⟨_,.int 1,MF X G q_CLOCK,⟨_,rfl⟩,fun H=>rfl⟩
 have qL:sj K mg "COUNT" aQ:=⟨_,.int 4,MF X G q_COUNT,⟨_,rfl⟩,fun H=>rfl⟩
 have t9:sj K mg "DAY" cY:=⟨_,.int 86400,MF X G q_DAY,⟨_,rfl⟩,fun H=>rfl⟩
 have vn:sj K mg "FULL_RING" eO:=⟨_,.int 10,MF X G q_FULL_RING,⟨_,rfl⟩,fun H=>rfl⟩
 have o8:sj K mg "HELD" aR:=⟨_,.int 6,MF X G q_HELD,⟨_,rfl⟩,fun H=>rfl⟩
 have sJ:sj K mg "IDLE" cR:=⟨_,.int 7,MF X G q_IDLE,⟨_,rfl⟩,fun H=>rfl⟩
 have tq:sj K mg "LAPS" cb:=⟨_,.int 3,MF X G q_LAPS,⟨_,rfl⟩,fun H=>rfl⟩
 have sw:sj K mg "MODE" cc:=⟨_,.int 0,MF X G q_MODE,⟨_,rfl⟩,fun H=>rfl⟩
 have vj:sj K mg "MOST_KEPT" em:=⟨_,.int 4,MF X G q_MOST_KEPT,⟨_,rfl⟩,fun H=>rfl⟩
 have vZ:sj K mg "RING" gm:=⟨_,.int 5,MF X G q_RING,⟨_,rfl⟩,fun H=>rfl⟩
 have s_PRESSES:Ht K mg "PRESSES" cF:=⟨v8,_,_,_,MF X G q_PRESSES,rs_PRESSES,(.cons ⟨_,rfl⟩ (.cons ⟨_,rfl⟩ (.cons ⟨_,rfl⟩ (.cons ⟨_,rfl⟩ (.cons ⟨_,rfl⟩ (.cons ⟨_,rfl⟩ .nil))))))⟩
 have D_STEPS:=MF X G q_STEPS
 refine⟨W.fnOf "law" "law" (sN fw) (rG fw) (i6 fw) .none kV64 dc64 pm64 an64 cd64 ct64,fun s v=>.of_eq rfl,fun base _ _=>?_⟩
 have qO:n6 l.prog w K mg base 1 "_law_drawn" ["_law_number","_law_k"] aH:=az F0 g0 b0 (iS (k:=0)  F0)
 have ue:n6 l.prog w K mg base 2 "_law_book" ["_law_number"] bP:=az F1 g1 b1 (jm (k:=1) qO.m rK F1)
 have t6:n6 l.prog w K mg base 1 "_law_cell_at" ["_law_script","_law_k"] bC:=az F2 g2 b2 (gz (k:=0) uA F2)
 have sA:n6 l.prog w K mg base 2 "_law_mixed" ["_law_script","_law_k"] aX:=az F3 g3 b3 (iG (k:=1) t6.m F3)
 have uP:n6 l.prog w K mg base 1 "_law_ready" ["_law_book_here","_law_number"] bT:=az F4 g4 b4 (iT (k:=0) uA F4)
 have uJ:n6 l.prog w K mg base 1 "_law_event" ["_law_number"] bp:=az F5 g5 b5 (iV (k:=0)  F5)
 have v7:n6 l.prog w K mg base 2 "_law_row" ["_law_number","_law_most"] bL:=az F6 g6 b6 (ke (k:=1) qO.m uJ.m rK tL F6)
 have rO:n6 l.prog w K mg base 1 "is_holding" ["state","button"] bo:=az F7 g7 b7 (iO (k:=0) o8 F7)
 have sH:n6 l.prog w K mg base 2 "is_short" ["state","button"] bB:=az F8 g8 b8 (kj (k:=1) rO.m o8 F8)
 have o6:n6 l.prog w K mg base 1 "put" ["state","place","part"] aG:=az F9 g9 b9 (qg (k:=0)  F9)
 have tu:n6 l.prog w K mg base 2 "alarm_hour_on" ["state"] ba:=az F10 g10 b10 (ge (k:=1) o6.m qY F10)
 have sr:n6 l.prog w K mg base 2 "alarm_minute_on" ["state"] aT:=az F11 g11 b11 (e_ (k:=1) o6.m qY F11)
 have t7:n6 l.prog w K mg base 2 "alarm_turned" ["state"] bj:=az F12 g12 b12 (gB (k:=1) o6.m qY F12)
 have so:n6 l.prog w K mg base 2 "set_to" ["state","minute","second"] bH:=az F13 g13 b13 (mU (k:=1) o6.m qL F13)
 have su:n6 l.prog w K mg base 3 "count_minute_on" ["state"] aU:=az F14 g14 b14 (eZ (k:=2) so.m qL F14)
 have sv:n6 l.prog w K mg base 3 "count_second_on" ["state"] aS:=az F15 g15 b15 (fm (k:=2) so.m qL F15)
 have t8:n6 l.prog w K mg base 2 "count_turned" ["state"] bz:=az F16 g16 b16 (gA (k:=1) o6.m qL F16)
 have yf:n6 l.prog w K mg base 3 "filled" ["state"] dw:=az F17 g17 b17 (mv (k:=2) so.m qL F17)
 have wN:n6 l.prog w K mg base 2 "hour_on" ["state"] cH:=az F18 g18 b18 (ld (k:=1) o6.m qR F18)
 have vY:n6 l.prog w K mg base 2 "lap_kept" ["state"] cQ:=az F19 g19 b19 (kH (k:=1) o6.m uA tq vj F19)
 have uo:n6 l.prog w K mg base 2 "laps_turned" ["state"] bw:=az F20 g20 b20 (hV (k:=1) o6.m tq F20)
 have vk:n6 l.prog w K mg base 2 "minute_on" ["state"] bM:=az F21 g21 b21 (j4 (k:=1) o6.m qR F21)
 have wO:n6 l.prog w K mg base 1 "nothing" ["state"] cJ:=az F22 g22 b22 (lJ (k:=0)  F22)
 have wQ:n6 l.prog w K mg base 2 "to_zero" ["state"] cG:=az F23 g23 b23 (le (k:=1) o6.m qR F23)
 have zM:Eb l.prog w K mg base 3 "STEPS" vw:=⟨yl,_,D_STEPS,fun h X=>nV _ r_STEPS (show List.Nodup [oS "none",oS "hour",oS "minute",oS "zero",oS "ahour",oS "aminute",oS "alarm",oS "run",oS "lap",oS "cminute",oS "csecond",oS "full",oS "count"] from by decide +kernel) h X,(.cons (sF wO.m g22) (.cons (sF wN.m g18) (.cons (sF vk.m g21) (.cons (sF wQ.m g23) (.cons (sF tu.m g10) (.cons (sF sr.m g11) (.cons (sF t7.m g12) (.cons (sF uo.m g20) (.cons (sF vY.m g19) (.cons (sF su.m g14) (.cons (sF sv.m g15) (.cons (sF yf.m g17) (.cons (sF t8.m g16) .nil)))))))))))))⟩
 have rP:n6 l.prog w K mg base 4 "press_done" ["book","state","press"] bq:=az F24 g24 b24 (iU (k:=3) tu.m sr.m t7.m su.m sv.m t8.m yf.m wN.m vY.m uo.m vk.m wO.m o6.m wQ.m sw s_PRESSES zM F24)
 have yh:n6 l.prog w K mg base 5 "let_go" ["book","state","button"] eJ:=az F25 g25 b25 (mJ (k:=4) rO.m sH.m rP.m o6.m o8 sJ F25)
 have yi:n6 l.prog w K mg base 2 "pushed" ["state","button"] eN:=az F26 g26 b26 (nh (k:=1) o6.m o8 sJ vZ F26)
 have v4:n6 l.prog w K mg base 1 "count_on" ["count","many"] cS:=az F27 g27 b27 (kd (k:=0) tG F27)
 have wR:n6 l.prog w K mg base 1 "held_on" ["held","many"] dq:=az F28 g28 b28 (lD (k:=0)  F28)
 have q9:n6 l.prog w K mg base 1 "ticks_to_back" ["book","state"] aW:=az F29 g29 b29 (gf (k:=0) tG sJ F29)
 have wU:n6 l.prog w K mg base 2 "idle_on" ["book","state","many"] dt:=az F30 g30 b30 (lz (k:=1) q9.m o8 sJ F30)
 have wV:n6 l.prog w K mg base 1 "laps_on" ["laps","many"] du:=az F31 g31 b31 (lf (k:=0)  F31)
 have qS:n6 l.prog w K mg base 1 "alarm_tick" ["state"] aK:=az F32 g32 b32 (iJ (k:=0) qY qR t9 F32)
 have qT:n6 l.prog w K mg base 1 "count_tick" ["state"] aL:=az F33 g33 b33 (iF (k:=0) qL F33)
 have vm:n6 l.prog w K mg base 2 "last_ring" ["state","many"] cx:=az F34 g34 b34 (jv (k:=1) qS.m qT.m tG t9 F34)
 have wW:n6 l.prog w K mg base 3 "ring_on" ["state","many"] dr:=az F35 g35 b35 (kX (k:=2) vm.m tG vn vZ F35)
 have tN:n6 l.prog w K mg base 4 "counted" ["book","state","many"] ci:=az F36 g36 b36 (lK (k:=3) v4.m wR.m wU.m wV.m wW.m qY qR qL t9 o8 tq sw F36)
 have vp:n6 l.prog w K mg base 1 "goes_back" ["book","state"] cz:=az F37 g37 b37 (jq (k:=0) sw F37)
 have tw:n6 l.prog w K mg base 1 "ticks_to_long" ["book","state"] bu:=az F38 g38 b38 (gb (k:=0) tG o8 F38)
 have sh:n6 l.prog w K mg base 2 "turn_tick" ["book","state"] bx:=az F39 g39 b39 (jY (k:=1) vp.m q9.m tw.m o8 F39)
 have yg:n6 l.prog w K mg base 5 "turned" ["book","state"] dZ:=az F40 g40 b40 (na (k:=4) rP.m o6.m o8 sw F40)
 have uq:n6 l.prog w K mg base 6 "behind_turn" ["book","state"] bv:=az F41 g41 b41 (iz (k:=5) tN.m sh.m yg.m F41)
 have rn:n6 l.prog w K mg base 7 "stretches" ["book","state","many"] aI:=az F42 g42 b42 (j2 (k:=6) uq.m sh.m F42)
 have yj:n6 l.prog w K mg base 8 "ticked" ["book","state","many"] el:=az F43 g43 b43 (ni (k:=7) tN.m rn.m F43)
 have uK:n6 l.prog w K mg base 9 "gone" ["book","state","event"] cN:=az F44 g44 b44 (pj (k:=8) yh.m yi.m yj.m F44)
 have zO:n6 l.prog w K mg base 10 "after" ["book","state","row"] fN:=az F45 g45 b45 (ow (k:=9) uK.m F45)
 have tM:n6 l.prog w K mg base 1 "begun" ["book"] bY:=az F46 g46 b46 (ox (k:=0)  F46)
 have uL:n6 l.prog w K mg base 2 "ring_ticks" ["state","many"] be:=az F47 g47 b47 (iQ (k:=1) qS.m qT.m Bu rK Eu yk t9 F47)
 have vq:n6 l.prog w K mg base 1 "turn_sign" ["state"] cy:=az F48 g48 b48 (jl (k:=0) o8 F48)
 have sx:n6 l.prog w K mg base 8 "tick_happenings" ["book","state","many"] bc:=az F49 g49 b49 (fc (k:=7) uL.m rn.m vq.m F49)
 have uM:n6 l.prog w K mg base 9 "happenings" ["book","state","event"] aY:=az F50 g50 b50 (iW (k:=8) sH.m sx.m F50)
 have zP:n6 l.prog w K mg base 10 "story" ["book","row"] cX:=az F51 g51 b51 (oz (k:=9) tM.m uK.m uM.m tL F51)
 have uN:n6 l.prog w K mg base 2 "ring_count" ["state","many"] aZ:=az F52 g52 b52 (iE (k:=1) qS.m qT.m t9 F52)
 have sL:n6 l.prog w K mg base 8 "how_many_rings" ["book","state","many"] bn:=az F53 g53 b53 (fH (k:=7) uN.m rn.m Ew F53)
 have v5:n6 l.prog w K mg base 9 "rings_by" ["book","state","event"] cj:=az F54 g54 b54 (j9 (k:=8) sL.m F54)
 have sy:u5 l.prog w K mg base 10 C "happen" ["self","event"] (aM C):=⟨_,_,gF (k:=9) uK.m v5.m cl v6 uO q_ t_ F55,M55,b55⟩
 have Bv:u5 l.prog w K mg base 11 C "down" ["self","button"] (bg C):=⟨_,_,iR (k:=10) cl sy.m F56,M56,b56⟩
 have zN:u5 l.prog w K mg base 11 C "ticks" ["self","many"] (bG C):=⟨_,_,ic (k:=10) cl sy.m F57,M57,b57⟩
 have HQ:u5 l.prog w K mg base 11 C "up" ["self","button"] (bK C):=⟨_,_,kG (k:=10) cl sy.m F58,M58,b58⟩
 have ur:Ck l.prog w K mg base 12 "_law_box_do" ["_law_watch","_law_event_here"] 0 (bi C):=⟨_,_,iC (k:=11) cl Bv.m zN.m HQ.m F59,g59,F59.kp,b59⟩
 have Bw:yt l.prog w K mg base 1 C "rang" ["self"] (bS C):=⟨_,_,iK (k:=0) cl t_ F60,M60,b60⟩
 have Ex:yt l.prog w K mg base 1 C "row" ["self"] (bN C):=⟨_,_,j3 (k:=0) tL cl uO F61,M61,b61⟩
 have zQ:yt l.prog w K mg base 1 C "state" ["self"] (bE C):=⟨_,_,iy (k:=0) cl q_ F62,M62,b62⟩
 have FI:=fy (P:=l.prog) (w:=w) (base:=base) (k:=1) tM.m cl v6 uO q_ t_ F63
 exact(pX ue.m qO.m sA.m uP.m v7.m zO.m tM.m zP.m uA rK Ce cl Bw.m Ex.m zQ.m ur.m ⟨mkC,M63.at_,M63.fn,kc⟩ FI b63 mgW (by decide) F64).imp (Hs (Dx C))
theorem walk {l:W.OpenLaw} {q:Mv} {loose:List Str} {XP:(Str->Me Mg)->MI->Prop} {YP:MH->MI->Prop} {d:DefRec} {K:Params->Mj} (hn:l.most=some 63) (hdf:d.params.defaults=[])
    (hY:∀(w:MH) (h:MI),YP w h->(K w.params).In h)
    (F:∀(w:MH) (mg:Str->Me Mg) (fa:Ml) (h:MI),(K w.params).In h->h.Ns mainGlobals mg->mg d.name=some (.ref fa) ->
      ∃fd:Nl,(∀(s:Mi) (u:Mg),BindsTo s fd ⟨[u],[]⟩ [("_law_script",u)])/\∀base:MI,(K w.params).In base->base.Ns mainGlobals mg->l7 l.prog w (K w.params) mg base q8 13 fa fd ["_law_script"] (rL (K w.params) gq)) :
    W.WalkO q loose XP YP l.row.toRowW d [] (fun f vs=>PySem.call f vs):=
  L2.walk_of (n:=63) (k:=13) (x:="_law_script") (CX:=fun _=>q8) (sp:=fun w=>rL (K w.params) gq) hn (by decide) hdf ⟨rfl,by decide,by decide,rfl⟩ hY F (fun w H a ns hl _ hS=>⟨[.fro (ns.map .int)],.bl true,k9.one ⟨a,ns.map V.int,rfl,hS,yO _ _ ns⟩,DM ns hl,fun v H' _ hv=>hv⟩) fun _ _ _ _ _ z=>z
end HW
namespace PySem.W.Fast
theorem tw4191931514235485345:True:=⟨⟩
theorem tw12301772055941671319:True:=⟨⟩
theorem tw8944708418444051543:True:=⟨⟩
theorem tw16073230156735342096:True:=⟨⟩
theorem tw10627647406383516020:True:=⟨⟩
theorem tw3981966365269341861:True:=⟨⟩
theorem tw6201920345515048004:True:=⟨⟩
theorem tw2864401613750191312:True:=⟨⟩
theorem tw9227235992017343659:True:=⟨⟩
theorem tw4139833839915166907:True:=⟨⟩
theorem tw2159188020768765773:True:=⟨⟩
theorem tw3057713883135334942:True:=⟨⟩
theorem tw10977510073445332663:True:=⟨⟩
theorem tw9487806887113316456:True:=⟨⟩
theorem tw3091805948912341767:True:=⟨⟩
theorem tw11418634755689546977:True:=⟨⟩
theorem tw13899958288842771637:True:=⟨⟩
theorem tw14696132979416649501:True:=⟨⟩
theorem tw12420559724978833788:True:=⟨⟩
theorem tw16222499771251367134:True:=⟨⟩
theorem tw16059037517818865489:True:=⟨⟩
theorem tw5560059816066929120:True:=⟨⟩
theorem tw18137796304358657271:True:=⟨⟩
theorem tw5144576203891183964:True:=⟨⟩
theorem tw2713934541609725518:True:=⟨⟩
theorem tw10884827478823009273:True:=⟨⟩
theorem tw17228699444946982275:True:=⟨⟩
theorem tw9646227486167363012:True:=⟨⟩
theorem tw13881761998276742360:True:=⟨⟩
theorem tw7638714048300858393:True:=⟨⟩
theorem tw5379936107283084929:True:=⟨⟩
theorem tw2384714709513255812:True:=⟨⟩
theorem tw910841054167421834:True:=⟨⟩
theorem tw6098474226179362472:True:=⟨⟩
theorem tw7942527224440859170:True:=⟨⟩
theorem tw2430267987372140534:True:=⟨⟩
theorem tw5670714377549044225:True:=⟨⟩
theorem tw7590316665539196707:True:=⟨⟩
theorem tw6717648057156641221:True:=⟨⟩
theorem tw12689578225701548486:True:=⟨⟩
theorem tw16046823198981706444:True:=⟨⟩
theorem tw15711551447165998863:True:=⟨⟩
theorem tw18192464671245736048:True:=⟨⟩
theorem tw10283736861071555953:True:=⟨⟩
theorem tw3791948927937337362:True:=⟨⟩
theorem tw1757176709976987730:True:=⟨⟩
theorem tw17796019835812705874:True:=⟨⟩
theorem tw7867108506971203314:True:=⟨⟩
theorem tw10315955385014206645:True:=⟨⟩
theorem tw17182490976074386070:True:=⟨⟩
theorem tw1946066583222464887:True:=⟨⟩
theorem tw11487215766873101113:True:=⟨⟩
theorem tw1258761861961987578:True:=⟨⟩
theorem tw9309776838338338619:True:=⟨⟩
theorem tw16845390273292882012:True:=⟨⟩
theorem tw1363538127543283869:True:=⟨⟩
theorem tw13318818904692549470:True:=⟨⟩
theorem tw956280361083070334:True:=⟨⟩
noncomputable def tw15221342285185225926:=PySem.Challenge.pw_handwatch_k63_whole_watches_side_by_side
theorem te15221342285185225926:PySem.Challenge.pw_handwatch_k63_whole_watches_side_by_side=tw15221342285185225926:=rfl
end PySem.W.Fast
open PySem PySem.W PyProof.Rows
set_option maxRecDepth 100000 in
set_option maxHeartbeats 0 in
theorem PySem.Challenge.cw_handwatch_k63_whole_watches_side_by_side_holds : PySem.Challenge.rw_handwatch_k63_whole_watches_side_by_side.Holds := by
 w_on;o_law;k_head;(case hw=>w_witness2)
 k_fill
 refine HW.walk (l:=PySem.Challenge.rw_handwatch_k63_whole_watches_side_by_side) rfl rfl (fun w h Y=>PySem.W.kIn_of Y) ?F
 case F =>
  intro w mg fa h KX G hmg
  refine' HW.all_mk KX G hmg ?_ ?_ ?_ ?_ ?_ ?_ ?_ ?_ ?_ ?_ ?_ ?_ ?_ ?_ ?_ ?_ ?_ ?_ ?_ ?_ ?_ ?_ ?_ ?_ ?_ ?_ ?_ ?_ ?_ ?_ ?_ ?_ ?_ ?_ ?_ ?_ ?_ ?_ ?_ ?_ ?_ ?_ ?_ ?_ ?_ ?_ ?_ ?_ ?_ ?_ ?_ ?_ ?_ ?_ ?_ ?_ ?_ ?_ ?_ ?_ ?_ ?_ ?_ ?_ ?_ ?_ ?_ ?_ ?_ ?_ ?_ ?_ ?_ ?_ ?_ ?_ ?_ ?_ ?_ ?_ ?_ ?_ ?_ ?_ ?_ ?_ ?_ ?_ ?_ ?_ ?_ ?_ ?_ ?_ ?_ ?_ ?_ ?_ ?_ ?_ ?_ ?_ ?_
  all_goals try first | k_is | (refine' HW.fn4_mk ?_ ?_ ?_ ?_<;>try k_is) | (refine' HW.fn5_mk ?_ ?_ ?_ ?_ ?_<;>try k_is)
