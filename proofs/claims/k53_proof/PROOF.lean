import PyProof.Rows.All
import Wide.All
import OpenK.AllK
import Wide.FinOn
import Lean
import PyProof.EqAt
import PyProof.EqKinds
import PyProof.TupleCall
import KE.KLam
import PySem.Str
import PySem.Sem
import PyProof.StrWalks
import PyProof.ReprReads
import PyProof.ReprRoads
import PyProof.NeData
import PyProof.WalkInts
import PyProof.Rows.RegStrFacts
import PyProof.StrBlockI
import KE.IntText
import KE.KRevIter
import PyProof.StrBlock2
import KE.KIntText
import PyProof.Rows.Range3
import PyProof.ZipIter
import PyProof.Draws
import PyProof.IsRules
import PySem.SetOps
import PyProof.SetKind
import PyProof.DictStraight
import KE.KDictSum
import PyProof.Rows.SetFrom
import PyProof.Rows.SortShell
import PyProof.ListRange
import PyProof.Rows.FactsT2
import PyProof.Rows.FactsT3
import PySem.Builtin.Str.Common
import PyProof.StrCalls
import PyProof.DictWalks
import PyProof.Rows.TupDisplay
import PyProof.CollectWalk
import KE.KItemsList
import PyProof.ListNew
import PyProof.StrLawsIn
import PyProof.FitsReplace
import PyProof.ReprLen
import PyProof.P3In
import PyProof.FString5
import KE.KSortKey
import PyProof.TupleOfStr
import PySem.Challenge.RW_handwatch_k53_whole_least
section
open PySem PySem.Spec PyProof.Rows
abbrev V3:=Option
abbrev V4:=@wpAny_bind
abbrev V5:=Value
abbrev V6:=@Heap.get?_push_of_some
abbrev V7:=Shared
abbrev V8:=@wpAny_pure
abbrev V9:=@List.length_map
abbrev V_:=Addr
abbrev Wa:=@Option.bind_some
abbrev Wb:=PySem.W.Frag
abbrev Wc:=@if_pos
abbrev We:=@Bool.false_ne_true
abbrev Wf:=@Heap.get?_push_size
abbrev Wg:=@List.getElem?_map
abbrev Wh:=@List.mem_singleton
abbrev Wi:=@List.mem_of_getElem?
abbrev Wj:=@Bool.and_eq_true
abbrev Wl:=@Nat.le_refl
abbrev Wm:=@List.getElem?_eq_some_iff
abbrev Wn:=@List.getD_eq_getElem?_getD
abbrev Wo:=@List.mem_cons
abbrev Wp:=@Heap.lt_size
abbrev Wq:=@Option.some.inj
abbrev Wr:=Program
abbrev Ws:=@List.mem_cons_self
abbrev Wt:=@List.mem_cons_of_mem
abbrev Wu:=@if_neg
abbrev Wv:=@Nat.lt_of_lt_of_le
abbrev Ww:=@List.map_cons
abbrev Wx:=@decide_eq_false
abbrev Wy:=@List.size_toArray
abbrev Wz:=@absurd
abbrev WA:=@Nat.ne_of_lt
abbrev WB:=@List.length_append
abbrev WC:=World
abbrev WD:=@Nat.le_trans
abbrev WF:=@Heap.get?_update_other
abbrev WG:=Expr
abbrev WH:=@List.length_cons
abbrev WI:=@List.getElem?_append_right
abbrev WK:=Heap
abbrev WL:=@Array.length_toList
abbrev WM:=Around
abbrev WN:=@List.mem_append_right
abbrev WO:=@wpAny_newObj_type
abbrev WP:=@decide_eq_true
abbrev WQ:=@beq_eq_false_iff_ne
abbrev WR:=@codeAny_builtin
abbrev WT:=@List.append_nil
abbrev WV:=@List.getElem?_append_left
abbrev WW:=@Int.emod_lt_of_pos
abbrev WX:=@Heap.get?_update_self
abbrev WY:=@List.mem_append
abbrev WZ:=@Int.emod_nonneg
abbrev W4:=@Nat.zero_le
abbrev W6:=@List.drop_eq_getElem_cons
abbrev W7:=@List.getElem?_set_ne
abbrev W8:=@List.getElem?_eq_none
abbrev W9:=@List.all_cons
abbrev W_:=FuncData
abbrev Xa:=@Array.getElem?_eq_getElem
abbrev Xb:=@List.map_append
abbrev Xc:=@List.length_set
abbrev Xd:=@PySem.mem_of_lookup
abbrev Xe:=@List.all_eq_true
abbrev Xf:=@Nat.lt_irrefl
abbrev Xg:=@Nat.lt_of_le_of_lt
abbrev Xh:=@of_decide_eq_true
abbrev Xi:=Stmt
abbrev Xj:=@wpAny_mono
abbrev Xk:=@wpAny_Call_Name_kw
abbrev Xl:=@List.getElem?_set_self
abbrev Xm:=@List.mem_append_left
abbrev Xn:=@List.length_take
abbrev Xo:=@PySem.W.mg_of
abbrev Xp:=@Nat.lt_succ_self
abbrev Xq:=@List.length_drop
abbrev Xr:=@List.nil_append
abbrev Xs:=@eq_of_beq
abbrev Xt:=@beq_iff_eq
abbrev Xu:=@Int.zero_add
end
set_option Elab.async false
noncomputable section
set_option linter.all false
set_option compiler.extract_closed false
set_option maxRecDepth 100000
namespace L2
open PySem PySem.Spec PyProof.Rows
abbrev Key:=Sum Int Str
noncomputable def zu:Key->V5->Bool
 | .inl k,v=>Value.isInt k v
 | .inr x,v=>Value.isStrOf x v
def UP(w:WC):Key->Int
 | .inl k=>hashInt k
 | .inr x=>hashStr w x
def ri:∀{k:Key} {v:V5},zu k v=true->(∃i t,k=Sum.inl i/\v=Value.int i t)\/(∃x t,k=Sum.inr x/\v=Value.str x t)
 | .inl i,v,h=>by
  obtain⟨t,e⟩:=Value.isInt_shape (k:=i) (v:=v) h;exact .inl ⟨i,t,rfl,e⟩
 | .inr x,v,h=>by
  obtain⟨t,e⟩:=Value.isStrOf_shape (x:=x) (v:=v) h;exact .inr ⟨x,t,rfl,e⟩
def Jn(i:Int)(t:Tok):zu (.inl i) (.int i t)=true:=by simp[zu,Value.isInt]
def Jq(x:Str)(t:Tok):zu (.inr x) (.str x t)=true:=by simp[zu,Value.isStrOf]
def Rj(a b:Int):decide ((Sum.inl a:Key)=Sum.inl b)=(a==b):=by
 by_cases e:a=b
 ·subst e;simp
 ·have h:¬ (Sum.inl a:Key)=Sum.inl b:=λq=>e (Sum.inl.inj q)
  rw[Wx h];exact(WQ.mpr e).symm
def Px(a b:Str):decide ((Sum.inr a:Key)=Sum.inr b)=decide (a=b):=by
 by_cases e:a=b
 ·subst e;simp
 ·have h:¬ (Sum.inr a:Key)=Sum.inr b:=λq=>e (Sum.inr.inj q)
  rw[Wx h,Wx e]
def QB(a:Int)(b:Str):decide ((Sum.inl a:Key)=Sum.inr b)=false:=Wx (λq=>nomatch q)
def QW(a:Str)(b:Int):decide ((Sum.inr a:Key)=Sum.inl b)=false:=Wx (λq=>nomatch q)
def l7(prog:Wr)(w:WC):PySem.KeyKind prog w Key where
 is:=zu
 hash:=UP w
 inj:=λv a b g d=>by
  rcases ri g with ⟨i,t,rfl,rfl⟩ | ⟨x,t,rfl,rfl⟩
  ·rcases ri d with ⟨j,u,rfl,e⟩ | ⟨y,u,rfl,e⟩
   ·injection e with e1 _;rw[e1]
   ·exact nomatch e
  ·rcases ri d with ⟨j,u,rfl,e⟩ | ⟨y,u,rfl,e⟩
   ·exact nomatch e
   ·injection e with e1 _;rw[e1]
 byValue:=λk v h=>by
  rcases ri h with ⟨i,t,rfl,rfl⟩ | ⟨x,t,rfl,rfl⟩<;>rfl
 pyHash:=λc h=>by
  rcases ri c with ⟨i,t,rfl,rfl⟩ | ⟨x,t,rfl,rfl⟩
  ·exact wpAny_pyHash_int h
  ·exact wpAny_pyHash_str h
 eqBool:=λf c h=>by
  rcases ri f with ⟨i,t,rfl,rfl⟩ | ⟨x,t,rfl,rfl⟩
  ·rcases ri c with ⟨j,u,rfl,rfl⟩ | ⟨y,u,rfl,rfl⟩
   ·rw[Rj] at h;exact wpAny_eqBool_int h
   ·rw[QB] at h;exact SeqAt.EqAt.int_str i t y u _ _ _ _ h
  ·rcases ri c with ⟨j,u,rfl,rfl⟩ | ⟨y,u,rfl,rfl⟩
   ·rw[QW] at h;exact SeqAt.EqAt.str_int x t j u _ _ _ _ h
   ·rw[Px] at h;exact wpAny_eqBool_str h
 «strs»:=λk x t v h=>by
  rcases ri h with ⟨i,u,rfl,e⟩ | ⟨y,u,rfl,e⟩
  ·exact nomatch e
  ·injection e with e1 _
   subst e1;cases v<;>rfl
def Fi(prog:Wr)(w:WC)(i:Int)(t:Tok):(l7 prog w).is (.inl i) (.int i t)=true:=Jn i t
def Er(prog:Wr)(w:WC)(x:Str)(t:Tok):(l7 prog w).is (.inr x) (.str x t)=true:=Jq x t
end L2
namespace L2
open PySem PySem.Spec PyProof.Rows
inductive V where
 | non | bl (b:Bool) | int (i:Int) | str (x:Str) | byt (b:Array UInt8) | flt (b:UInt64) | ref (a:V_) | ty (n:String)
 deriving DecidableEq
def RelV:V->V5->Prop
 | .non,u=>u=Value.none
 | .bl b,u=>u=Value.bool b
 | .int i,u=>∃t,u=Value.int i t
 | .str x,u=>∃t,u=Value.str x t
 | .byt b,u=>∃t,u=Value.bytes b t
 | .flt b,u=>∃t,u=Value.float b t
 | .ref a,u=>u=Value.ref a
 | .ty n,u=>u=Value.type n
abbrev qP:List V->List V5->Prop:=Paired RelV
theorem qP.length(r:qP xs us):xs.length=us.length:=Paired.length r
theorem qP.get:∀{xs:List V} {us:List V5} {i:Nat} {x:V},qP xs us->xs[i]?=some x->∃u,us[i]?=some u/\RelV x u
 | _,_,_,_,.nil,e=>by simp at e
 | _,_,0,_,.cons r _,e=>by simp at e;subst e;exact⟨_,rfl,r⟩
 | _,_,i+1,x,.cons _ t,e=>by
  obtain⟨u,h1,a⟩:=qP.get (i:=i) (x:=x) t (by simpa using e);exact⟨u,by simpa using h1,a⟩
theorem qP.append:∀{xs a:List V} {us ws:List V5},qP xs us->qP a ws->qP (xs++a) (us++ws)
 | _,_,_,_,.nil,s=>s
 | _,_,_,_,.cons r t,s=>.cons r (qP.append t s)
theorem qP.take:∀{xs:List V} {us:List V5} (n:Nat),qP xs us->qP (xs.take n) (us.take n)
 | _,_,0,_=>.nil
 | _,_,_+1,.nil=>.nil
 | _,_,n+1,.cons r t=>.cons r (qP.take n t)
theorem qP.drop:∀{xs:List V} {us:List V5} (n:Nat),qP xs us->qP (xs.drop n) (us.drop n)
 | _,_,0,r=>r
 | _,_,_+1,.nil=>.nil
 | _,_,n+1,.cons _ t=>qP.drop n t
def BU:V3 V->V3 V5->Prop
 | some v,some u=>RelV v u
 | none,none=>True
 | _,_=>False
def KV{κ:Type}:List (κ×V)->List (κ×V5)->Prop:=Paired λ(p:κ×V) (q:κ×V5)=>p.1=q.1/\RelV p.2 q.2
def kV:Key->V
 | .inl i=>.int i
 | .inr x=>.str x
inductive HO where
 | lst (xs:List V)
 | tup (xs:List V)
 | dK (kvs:List (Key×V)) | dT (kvs:List (List Key×V))
 | set (S:Int->Bool) (n:Nat)
 | ins (C dx:V_) (fs:List (Str×V))
 | own (x:V_)
 | xd (fs:List (Str×V))
 | met (f x:V_)
 | rng (lo hi:Int)
 | frz (o:Obj) (u:HO)
 | tbl (q:Str) (c:Bool)
 | ext (φ:WK->Prop)
abbrev Hp:=V_->V3 HO
def upd(H:Hp)(a:V_)(o:HO):Hp:=λb=>if b=a then some o else H b
def aa:upd H a o a=some o:=by unfold upd;rw[Wc rfl]
def ac(h:b≠a):upd H a o b=H b:=by unfold upd;rw[Wu h]
def nO:upd (upd H a o) a u=upd H a u:=by
 funext b;unfold upd;split<;>rfl
def R9{H:Hp}{a b:V_}{o u:HO}(h:H a=some o)(h':H b=some u)(d:o≠u):a≠b:=by
 intro e;subst e;rw[h] at h';exact d (Wq h')
def sO{H:Hp}{a b:V_}{o:HO}(h:H a=some o)(h':H b=none):a≠b:=by
 intro e;subst e;rw[h] at h';cases h'
def uf(h:WK)(a:V_)(b:Array V5):Prop:=∃o,h.get? a=some o/\o.cls=.type "tuple" /\ (∃n,o.data=.seq b n)/\o.dict=none
def uf.is(x:uf h a b):IsTup h a b:=by obtain⟨o,e,c,d,_⟩:=x;exact⟨o,e,c,d⟩
theorem uf.lt(x:uf h a b):a<h.objs.size:=x.is.lt
def uf.new(h:WK)(a:Array V5):uf (h.push {cls:=.type "tuple",data:=.seq a}) h.objs.size a:=⟨_,Wf _ rfl,rfl,⟨_,rfl⟩,rfl⟩
section
variable(P:Wr)(w:WC)
def rO(H:Hp)(h:WK)(a:V_):HO->Prop
 | .lst xs=>xs.length<=sizeLine/\∃(b:List V5) (n:Nat),qP xs b/\h.get? a=some {cls:=.type "list",data:=.seq b.toArray n}
 | .tup xs=>xs.length<=sizeLine/\∃b:List V5,qP xs b/\uf h a b.toArray
 | .dK kvs=>kvs.length<=sizeLine/\(a==sysModules)=false/\∃g,KV kvs g/\h.DictOf (l7 P w) a g
 | .dT kvs=>kvs.length<=sizeLine/\(a==sysModules)=false/\∃xs:List (List Key×V_×V5),
   Paired (λ(p:List Key×V) (q:List Key×V_×V5)=>p.1=q.1/\H q.2.1=some (.tup (p.1.map kV))/\RelV p.2 q.2.2) kvs xs /\
   ∃o es k,h.get? a=some o/\o.ExactDict/\o.data=.dict es k/\es.toList=xs.map (entryOfKey (tupleKind (l7 P w)))/\(xs.map (·.1)).Nodup
 | .set S n=>h.SetOf (intKind P w) a S n
 | .ins C dx fs=>H dx=some (.own a)/\fs.length<=1000/\dx≠a/\h.get? a=some (PySem.W.instObj C dx) /\
   ∃d,h.Ns1 dx d/\(∀f,BU (fs.lookup f) (d f))/\PySem.Within d (fs.map (·.1))
 | .own _=>∃o,h.get? a=some o
 | .xd fs=>∃d,h.Ns1 a d/\∀f,BU (fs.lookup f) (d f)
 | .rng lo hi=>∃t u v,h.get? a=some {cls:=.type "range",data:=.fields #[.int lo t,.int hi u,.int 1 v]}
 | .frz o u=>h.get? a=some o/\rO H h a u
 | .tbl q true=>h.CodeRec (.ref a) q
 | .tbl q false=>∃e:Array V5,h.get? a=some {cls:=.none,data:=.fields e}/\TriplesOk e.toList/\∀(pos:Pos) (j:V5),codeAmong pos e.toList=some j->∃c,j=.ref c/\H c=some (.tbl q true)
 | .met f x=>h.get? a=some (PySem.W.methodObj (.ref f) (.ref x))
 | .ext φ=>φ h/\(∃o,h.get? a=some o)/\∀h1 i:WK,φ h1->(∀o,h1.get? a=some o->i.get? a=some o)->φ i
def xy(H:Hp)(h:WK):Prop:=∀a o,H a=some o->rO P w H h a o
end
section
variable{P:Wr}{w:WC}{H H':Hp}{h h':WK}{a:V_}{o:HO}
theorem rO.lt(x:rO P w H h a o):a<h.objs.size:=by
 cases o with
 | lst xs=>obtain⟨_,_,_,_,e⟩:=x;exact Wp e
 | tup xs=>obtain⟨_,_,_,p⟩:=x;exact p.lt
 | dK kvs=>obtain⟨_,_,_,_,o,_,_,e,_⟩:=x;exact Wp e
 | dT kvs=>obtain⟨_,_,_,_,o,_,_,e,_⟩:=x;exact Wp e
 | set S n=>obtain⟨o,_,_,_,e,_⟩:=x;exact Wp e
 | ins C dx fs=>obtain⟨_,_,_,e,_⟩:=x;exact Wp e
 | own y=>obtain⟨_,e⟩:=x;exact Wp e
 | xd fs=>obtain⟨_,⟨_,_,_,e,_⟩,_⟩:=x;exact Wp e
 | rng lo hi=>obtain⟨_,_,_,e⟩:=x;exact Wp e
 | frz ob u=>obtain⟨e,_⟩:=x;exact Wp e
 | tbl q c =>
  cases c with
  | true=>obtain⟨_,o,_,_,e,g,_⟩:=(show h.CodeRec (.ref a) q from x);cases e;exact Wp g
  | false=>obtain⟨_,e,_⟩:=x;exact Wp e
 | met f y=>exact Wp (show h.get? a=some _ from x)
 | ext φ=>obtain⟨_,⟨_,e⟩,_⟩:=x;exact Wp e
theorem Paired.mapP:∀{d:List g} {c:List e},Paired F d c->(∀a b,F a b->G a b)->Paired G d c
 | _,_,.nil,_=>.nil
 | _,_,.cons r t,f=>.cons (f _ _ r) (Paired.mapP t f)
def rO.stay(x:rO P w H h a o)(k:∀b u,(b=a\/H b=some (.own a))->h.get? b=some u->h'.get? b=some u)
  (I:∀b,H b=some (.own a)->H' b=some (.own a)) (G:∀b xs,H b=some (.tup xs)->H' b=some (.tup xs)) (J:∀b q c,H b=some (.tbl q c)->H' b=some (.tbl q c)):rO P w H' h' a o:=by
 induction o with
 | lst xs=>obtain⟨z,j,n,r,e⟩:=x;exact⟨z,j,n,r,k _ _ (.inl rfl) e⟩
 | tup xs=>obtain⟨z,j,r,ob,e,c⟩:=x;exact⟨z,j,r,ob,k _ _ (.inl rfl) e,c⟩
 | dK kvs=>obtain⟨z,y,l,r,ob,es,i,e,c⟩:=x;exact⟨z,y,l,r,ob,es,i,k _ _ (.inl rfl) e,c⟩
 | dT kvs =>
  obtain⟨z,y,xs,r,ob,es,i,e,c⟩:=x;exact⟨z,y,xs,Paired.mapP r λp q z=>⟨z.1,G _ _ z.2.1,z.2.2⟩,ob,es,i,k _ _ (.inl rfl) e,c⟩
 | set S n=>obtain⟨ob,es,i,t,e,c⟩:=x;exact⟨ob,es,i,t,k _ _ (.inl rfl) e,c⟩
 | ins C dx fs =>
  obtain⟨d,z,F,e,s,⟨m,es,i,B,c⟩,r⟩:=x;exact⟨I _ d,z,F,k _ _ (.inl rfl) e,s,⟨m,es,i,k _ _ (.inr d) B,c⟩,r⟩
 | own y=>obtain⟨ob,e⟩:=x;exact⟨ob,k _ _ (.inl rfl) e⟩
 | xd fs=>obtain⟨s,⟨m,es,i,e,c⟩,r⟩:=x;exact⟨s,⟨m,es,i,k _ _ (.inl rfl) e,c⟩,r⟩
 | rng lo hi=>obtain⟨t,u,v,e⟩:=x;exact⟨t,u,v,k _ _ (.inl rfl) e⟩
 | frz ob u ih=>obtain⟨e,q⟩:=x;exact⟨k _ _ (.inl rfl) e,ih q⟩
 | tbl q c =>
  cases c with
  | true =>
   obtain⟨_,o,l,t,e,g,r⟩:=(show h.CodeRec (.ref a) q from x)
   cases e;exact⟨a,o,l,t,rfl,k _ _ (.inl rfl) g,r⟩
  | false =>
   obtain⟨E,e,t,r⟩:=x;refine⟨E,k _ _ (.inl rfl) e,t,λpos L A=>?_⟩;obtain⟨c,K,B⟩:=r pos L A;exact⟨c,K,J _ _ _ B⟩
 | met f y =>
  have e:h.get? a=some (PySem.W.methodObj (.ref f) (.ref y)):=x;show h'.get? a=some (PySem.W.methodObj (.ref f) (.ref y));exact k a _ (.inl rfl) e
 | ext φ=>obtain⟨p,⟨o,e⟩,st⟩:=x;exact⟨st _ _ p λo q=>k _ _ (.inl rfl) q,⟨o,k _ _ (.inl rfl) e⟩,st⟩
theorem xy.lt(x:xy P w H h)(e:H a=some o):a<h.objs.size:=(x a o e).lt
def xy.fresh(x:xy P w H h)(e:h.objs.size<=a):H a=none:=by
 cases q:H a with
 | none=>rfl
 | some u=>exact Wz (Wv (x.lt q) e) (Xf _)
def xy.kept(x:xy P w H h)(k:∀b u,h.get? b=some u->h'.get? b=some u):xy P w H h':=λa o e =>
 (x a o e).stay (λb u _ q=>k b u q) (λ_ q=>q) (λ_ _ q=>q) λ_ _ _ q=>q
def xy.laid(x:xy P w H h)(k:∀b u,h.get? b=some u->h'.get? b=some u)(g:h.objs.size<=a)(new:rO P w (upd H a o) h' a o):xy P w (upd H a o) h':=λb u e=>by
 have d:=x.fresh g;by_cases f:b=a
 ·subst f;rw[aa] at e;cases e;exact new
 ·rw[ac f] at e
  exact(x b u e).stay (λc v _ q=>k c v q) (λc q=>by rw[ac (sO q d)];exact q) (λc xs q=>by rw[ac (sO q d)];exact q) λc _ _ q=>by rw[ac (sO q d)];exact q
end
def Rd(H:Hp)(a:V_)(u:HO):Prop:=H a=some u\/∃o,H a=some (.frz o u)
def Rd.ok(r:Rd H a u)(x:xy P w H h):rO P w H h a u:=by
 rcases r with r | ⟨o,r⟩
 ·exact x a u r
 ·obtain⟨_,q⟩:=x a _ r
  exact q
def SJ:V3 HO->Prop
 | some (.lst _)=>True
 | some (.dK _)=>True
 | some (.dT _)=>True
 | some (.set _ _)=>True
 | some (.ins _ _ _)=>True
 | some (.ext _)=>True
 | some (.frz _ (.own _))=>True
 | _=>False
section
variable{P:Wr}{w:WC}{H:Hp}{h h':WK}{x e:V_}{o':HO}
def xy.write(ok:xy P w H h)(g:SJ (H x))(o:e=x\/H e=some (.own x))(k:∀b u,b≠e->h.get? b=some u->h'.get? b=some u)(m:∃u,h'.get? e=some u)
  (new:rO P w (upd H x o') h' x o'):xy P w (upd H x o') h':=λb u q=>by
 have f:∀c y,H c=some (.own y)->c≠x:=λc y r z=>by subst z;rw[r] at g;exact g
 have i:∀c xs,H c=some (.tup xs)->c≠x:=λc xs r z=>by subst z;rw[r] at g;exact g
 by_cases l:b=x
 ·subst l;rw[aa] at q;cases q;exact new
 ·rw[ac l] at q
  by_cases a:b=e
  ·have n:H b=some (.own x):=by
    rcases o with z | z
    ·exact Wz (a.trans z) l
    ·rw[a];exact z
   rw[q] at n;cases n;obtain⟨v,p⟩:=m;exact⟨v,by rw[a];exact p⟩
  ·refine(ok b u q).stay (λc v j r=>k c v ?_ r) (λc r=>by rw[ac (f c b r)];exact r) (λc xs r=>by rw[ac (i c xs r)];exact r) λc q d r=>by rw[ac λz=>by subst z;rw[r] at g;exact g];exact r
   rcases j with rfl | j
   ·exact a
   ·rintro rfl
    rcases o with z | z
    ·exact f c b j z
    ·rw[j] at z;cases z;exact l rfl
end
structure Un (fs ex:List V_) (H H':Hp) (h h':WK):Prop where
 keep:∀b o,h.get? b=some o->H b=none->b∉fs->b∉ex->h'.get? b=some o
 slot:∀b o,h.get? b=some o->H b=none->b∈fs->b∉ex->∃sl,h'.get? b=some {o with slots:=sl}
 free:∀b o,h.get? b=some o->H b=none->b∉ex->H' b=none
 there:∀b o,h.get? b=some o->b∉ex->∃o',h'.get? b=some o'
 tups:∀b xs,H b=some (.tup xs)->H' b=some (.tup xs)
 frzs:∀b o u,(∀y,u≠.own y)->H b=some (.frz o u)->H' b=some (.frz o u)
 tbls:∀b q c,H b=some (.tbl q c)->H' b=some (.tbl q c)
section
variable{fs fs' ex ex':List V_}{H H1 H2:Hp}{h h1 h2 h':WK}{a x e:V_}{o:HO}
def Un.any(u:Un fs ex H H1 h h1)(q:h.get? b=some ob)(n:H b=none)(c:b∉ex):∃f,h1.get? b=some {ob with slots:=f}:=by
 by_cases d:b∈fs
 ·exact u.slot b ob q n d c
 ·exact⟨ob.slots,u.keep b ob q n d c⟩
def Un.kept(k:∀b u,h.get? b=some u->h'.get? b=some u):Un fs ex H H h h':=
 ⟨λb ob q _ _ _=>k b ob q,λb ob q _ _ _=>⟨ob.slots,k b ob q⟩,λ_ _ _ n _=>n,λb ob q _=>⟨ob,k b ob q⟩,λ_ _ q=>q,λ_ _ _ _ q=>q,λ_ _ _ q=>q⟩
def Un.refl:Un fs ex H H h h:=Un.kept λ_ _ q=>q
def Un.laid(k:∀b u,h.get? b=some u->h'.get? b=some u)(d:h.objs.size<=a)(c:H a=none):Un fs ex H (upd H a o) h h' where
 keep:=λb u q _ _ _=>k b u q
 slot:=λb u q _ _ _=>⟨u.slots,k b u q⟩
 free:=λb u q n _=>by rw[ac (WA (Wv (Wp q) d))];exact n
 there:=λb u q _=>⟨u,k b u q⟩
 tups:=λb xs q=>by rw[ac (sO q c)];exact q
 frzs:=λb u xs _ q=>by rw[ac (sO q c)];exact q
 tbls:=λb ps _ q=>by rw[ac (sO q c)];exact q
def Un.write(d:SJ (H x))(p:e=x\/H e=some (.own x))(k:∀b u,b≠e->h.get? b=some u->h'.get? b=some u)(g:∃u,h'.get? e=some u):Un fs ex H (upd H x o) h h':=by
 have i:∀b,H b=none->b≠x:=λb n z=>by subst z;rw[n] at d;exact d
 have j:∀b,H b=none->b≠e:=λb n z=>by
  subst z;rcases p with r | r
  ·exact i b n r
  ·rw[n] at r;cases r
 have f:∀b u,H b=some u->¬ SJ (some u)->b≠x:=λb u q m z=>by subst z;rw[q] at d;exact m d
 refine⟨λb u q n _ _=>k b u (j b n) q,λb u q n _ _=>⟨u.slots,k b u (j b n) q⟩,λb u q n _=>by rw[ac (i b n)];exact n,λb u q _=>?_,
  λb xs q=>by rw[ac (f b _ q λz=>z)];exact q,λb u xs l q=>by rw[ac (f b _ q (by intro z;cases xs<;>first | exact z | exact l _ rfl))];exact q,λb ps _ q=>by rw[ac (f b _ q λz=>z)];exact q⟩
 by_cases c:b=e
 ·subst c;exact g
 ·exact⟨u,k b u c q⟩
end
def Tw(h:WK)(H:Hp):List V_:=(List.range h.objs.size).filter λa=>(H a).isSome
def BR(h:WK)(H:Hp):WK:=PySem.W.hideAll h (Tw h H)
def Jk(h:WK)(H:Hp):(BR h H).objs.size=h.objs.size:=PySem.W.hideAll_size _ _
def Ld(e:h.get? b=some o)(n:H b=none):(BR h H).get? b=some o:=
 PySem.W.hideAll_get _ e λa=>by
  have q:(H b).isSome=true:=(List.mem_filter.mp a).2;rw[n] at q;simp at q
def NJ(e:(BR h H).get? b=some o):h.get? b=some o/\H b=none:=by
 have a:h.get? b=some o:=PySem.W.of_hideAll (Tw h H) e;refine⟨a,?_⟩;cases q:H b with
 | none=>rfl
 | some x =>
  have c:b∈Tw h H:=List.mem_filter.mpr ⟨List.mem_range.mpr (Wp a),by simp[q]⟩;have z:(BR h H).get? b=none:=PySem.W.hideAll_none (Tw h H) c;rw[z] at e;cases e
end L2
namespace L2
open PySem PySem.Spec PyProof.Rows
structure Mod (K:Wb) (mg:Str->V3 V5) (base:WK):Prop where
 kin:K.In base
 glob:base.Ns mainGlobals mg
 blt:∃mb,base.Ns builtinsNs mb/\∀x:Str,x ≠ "__name__" -> mb x=bootBuiltins x
 nolimit:base.NoLimit
structure Cx where
 prog:Wr
 w:WC
 K:Wb
 mg:Str->V3 V5
 base:WK
 A:WM
 N:List Str
 s₀:V7
 H₀:Hp
 env:Env
 outer:List Env
 stack:List Env
 ex:List V_
 fn:Str->Bool
 calm:Bool
 pn:List (V_×Obj)
 xe:V5->V7->Prop
def HV(l:List Env):List V_:=l.filterMap (·.frame)
abbrev Cx.fs(X:Cx):List V_:=HV X.outer
def Do(sc:Scope)(x:Str):Prop:=sc.names.lookup x=some .local\/sc.names.lookup x=some .cell\/sc.names.lookup x=some .free
def Loc(sc:Scope)(x:Str):Prop:=sc.names.lookup x=some .local\/sc.names.lookup x=some .cell
def Look(env:Env)(h:WK)(m:Str->V3 V5)(x:Str)(u:V5):Prop:=
 (env.kindOf x=some .local/\m x=some u)\/((env.kindOf x=some .cell\/env.kindOf x=some .free)/\∃c,env.cells.lookup x=some c/\h.IsCell c (some u))
structure Cx.Ok (X:Cx):Prop where
 mod:Mod X.K X.mg X.base
 kind:X.env.scope.kind=.function
 glob:X.env.globals=mainGlobals
 blt:X.env.builtins=builtinsNs
 above:X.s₀.heap.objs.size<=X.env.locals
 inj:∀x y c,X.env.cells.lookup x=some c->X.env.cells.lookup y=some c->x=y
 has:∀x,(X.env.kindOf x=some .cell\/X.env.kindOf x=some .free)->∃c,X.env.cells.lookup x=some c
 cab:∀x c,X.fn x=true->X.env.cells.lookup x=some c->X.s₀.heap.objs.size<=c
 hd:X.calm=true->X.A.handled=none
 frames:X.A.frames=some X.stack
 stk:X.stack=X.outer\/(X.stack=X.env::X.outer/\X.env.frame=some X.env.locals)
 exf:∀b∈X.ex,b≠X.env.locals/\∀x c,X.env.cells.lookup x=some c->c≠b
 bs:∀b o,X.base.get? b=some o->X.s₀.heap.get? b=some o/\X.H₀ b=none
 bsz:X.base.objs.size<=X.s₀.heap.objs.size
 noex:∀b o,X.base.get? b=some o->b∉X.ex
 exfs:∀b∈X.ex,b∉X.fs
 funs:X.s₀.heap.FunFrames X.base X.outer
 frf:∀b∈X.fs,X.H₀ b=none
structure Inv (X:Cx) (pins:List (V_×Obj)) (σ:List (V3 V)) (H:Hp) (s:V7):Prop where
 ok:X.Ok
 os:s.os=X.s₀.os
 bare:AllBare s.gens
 base:Un X.fs X.ex X.H₀ H X.s₀.heap s.heap
 loc:∃m,s.heap.Ns X.env.locals m/\∀(i:Nat) (x:Str) (v:V),X.N[i]?=some x->σ[i]?=some (some v)->Do X.env.scope x->∃u,RelV v u/\Look X.env s.heap m x u
 cell:∀x c,X.env.cells.lookup x=some c->∃v,s.heap.IsCell c v
 free:H X.env.locals=none
 freeC:∀x c,X.env.cells.lookup x=some c->H c=none
 pin:∀p∈X.pn++pins,s.heap.get? p.1=some p.2/\H p.1=none/\p.1≠X.env.locals/\p.1∉X.fs/\∀v,p.2.data≠.cell v
 hok:xy X.prog X.w H s.heap
 len:σ.length=X.N.length
section
variable{X:Cx}{pins:List (V_×Obj)}{σ:List (V3 V)}{H H':Hp}{s:V7}{h':WK}
def Cx.Ok.nofr(ok:X.Ok)(e:X.base.get? b=some o):b∉X.fs:=λa=>by
 have:=(ok.funs.mem a).1;rw[e] at this;cases this
theorem Inv.bs(I:Inv X pins σ H s):∀b o,X.base.get? b=some o->s.heap.get? b=some o/\H b=none:=λb o e =>
 ⟨I.base.keep b o (I.ok.bs b o e).1 (I.ok.bs b o e).2 (I.ok.nofr e) (I.ok.noex b o e),I.base.free b o (I.ok.bs b o e).1 (I.ok.bs b o e).2 (I.ok.noex b o e)⟩
def Inv.bk(I:Inv X pins σ H s):∀b o,X.base.get? b=some o->s.heap.get? b=some o:=λb o e=>(I.bs b o e).1
theorem Inv.mod(I:Inv X pins σ H s):Mod X.K X.mg X.base:=I.ok.mod
def Inv.kIn(I:Inv X pins σ H s):X.K.In s.heap:=I.ok.mod.kin.keeps I.bk
theorem Inv.lt(I:Inv X pins σ H s):X.env.locals<s.heap.objs.size:=let ⟨_,a,_⟩:=I.loc;a.lt
def Inv.sz(I:Inv X pins σ H s):X.s₀.heap.objs.size<=s.heap.objs.size:=WD I.ok.above (Nat.le_of_lt I.lt)
def Inv.nofs(I:Inv X pins σ H s)(h:s.heap.objs.size<=a):a∉X.fs:=λc=>by
 obtain⟨_,o,b,_⟩:=I.ok.funs.mem c;exact Wz (Wv (Wp b) (WD I.sz h)) (Xf _)
def Inv.cne(I:Inv X pins σ H s):∀x c,X.env.cells.lookup x=some c->c≠X.env.locals:=λx c e z=>by
 obtain⟨v,o,d,hd⟩:=I.cell x c e;obtain⟨m,⟨f,es,g,a,b,_⟩,_⟩:=I.loc;rw[z,a] at d;cases d;rw[b] at hd;cases hd
theorem Inv.funs(I:Inv X pins σ H s):s.heap.FunFrames X.base X.outer:=by
 have all:∀(l:List Env),(∀b∈HV l,b∈X.fs)->X.s₀.heap.FunFrames X.base l->s.heap.FunFrames X.base l:=by
  intro l
  induction l with
  | nil=>intro _ _;trivial
  | cons env r ih =>
   intro f j;obtain⟨k,⟨L,o,a,i,h,hd⟩,g⟩:=j;have d:L∈X.fs:=f L (by unfold HV;rw[List.filterMap_cons,a];exact Ws);obtain⟨m,e⟩:=I.base.slot L o h (I.ok.frf L d) d λz=>I.ok.exfs L z d
   exact⟨k,⟨L,_,a,i,e,hd⟩,ih (λb c=>f b (by unfold HV;rw[List.filterMap_cons,a];exact Wt _ c)) g⟩
 exact all X.outer (λ_ c=>c) I.ok.funs
theorem Inv.stack(I:Inv X pins σ H s):s.heap.FunFrames X.base X.stack:=by
 rcases I.ok.stk with e | ⟨e,b⟩
 ·rw[e];exact I.funs
 ·rw[e]
  obtain⟨m,a,_⟩:=I.loc;refine .cons (by rw[I.ok.kind];decide) b a ?_ I.funs;exact Heap.get?_none_of_le (WD I.ok.bsz I.ok.above)
def Inv.stkSub(I:Inv X pins σ H s):∀b∈HV X.stack,b∈X.env.locals::X.fs:=λb a=>by
 rcases I.ok.stk with e | ⟨e,c⟩
 ·rw[e] at a;exact Wt _ a
 ·rw[e] at a
  unfold HV at a;rw[List.filterMap_cons,c] at a;exact a
def Inv.stkFree(I:Inv X pins σ H s):∀b∈HV X.stack,H b=none:=λb a=>by
 rcases Wo.mp (I.stkSub b a) with e | a
 ·rw[e];exact I.free
 ·obtain⟨_,o,c,_⟩:=I.ok.funs.mem a
  exact I.base.free b o c (I.ok.frf b a) λz=>I.ok.exfs b z a
def Inv.step{g':Array GenState}{t':Nat}{d':Drawn}{ch:List V_}(I:Inv X pins σ H s)
  (g:∀b∈ch,(b∈X.ex\/X.s₀.heap.objs.size<=b)/\b≠X.env.locals/\(∀x c,X.env.cells.lookup x=some c->c≠b)/\∀p∈X.pn++pins,p.1≠b)
  (keep:∀b o,b≠X.env.locals->b∉X.fs->b∉ch->s.heap.get? b=some o->H b=none->h'.get? b=some o)
  (slot:∀b o,b≠X.env.locals->b∈X.fs->b∉ch->s.heap.get? b=some o->H b=none->∃G,h'.get? b=some {o with slots:=G}) (free:∀b o,b∉ch->s.heap.get? b=some o->H b=none->H' b=none)
  (there:∀b o,b∉ch->s.heap.get? b=some o->∃C,h'.get? b=some C)
  (tups:∀b xs,H b=some (.tup xs)->H' b=some (.tup xs)) (frzs:∀b o u,(∀y,u≠.own y)->H b=some (.frz o u)->H' b=some (.frz o u)) (tbls:∀b q c,H b=some (.tbl q c)->H' b=some (.tbl q c))
  (Q:∀m,s.heap.Ns X.env.locals m->h'.Ns X.env.locals m) (hok:xy X.prog X.w H' h') (U:AllBare g') :
  Inv X pins σ H' {s with heap:=h',gens:=g',drawn:=d',toks:=t' }:=by
 have E:∀b o,X.s₀.heap.get? b=some o->b≠X.env.locals:=λb o e=>WA (Wv (Wp e) I.ok.above)
 have j:∀b o,X.s₀.heap.get? b=some o->b∉X.ex->b∉ch:=λb o e a t=>by
  rcases(g b t).1 with z | z
  ·exact a z
  ·exact Wz (Wv (Wp e) z) (Xf _)
 have h:∀x c,X.env.cells.lookup x=some c->∀v,s.heap.IsCell c v->h'.IsCell c v:=λx c e v J=>by
  obtain⟨o,B,hd⟩:=J;have f:c∉ch:=λz=>(g c z).2.2.1 x c e rfl
  by_cases P:c∈X.fs
  ·obtain⟨G,q⟩:=slot c o (I.cne x c e) P f B (I.freeC x c e)
   exact⟨_,q,hd⟩
  ·exact⟨o,keep c o (I.cne x c e) P f B (I.freeC x c e),hd⟩
 refine⟨I.ok,I.os,U,⟨λb o e n t a=>?_,λb o e n t a=>?_,λb o e n a=>?_,λb o e a=>?_,λb xs e=>tups b xs (I.base.tups b xs e),λb o xs L e=>frzs b o xs L (I.base.frzs b o xs L e),λb ps d e=>?_⟩,?_,λx c e=>?_,?_,λx c e=>?_,λp O=>?_,hok,I.len⟩
 ·exact keep b o (E b o e) t (j b o e a) (I.base.keep b o e n t a) (I.base.free b o e n a)
 ·obtain⟨G,A⟩:=I.base.slot b o e n t a
  obtain⟨F,K⟩:=slot b _ (E b o e) t (j b o e a) A (I.base.free b o e n a);exact⟨F,K⟩
 ·obtain⟨C,A⟩:=I.base.there b o e a
  exact free b C (j b o e a) A (I.base.free b o e n a)
 ·obtain⟨C,A⟩:=I.base.there b o e a
  exact there b C (j b o e a) A
 ·exact tbls b ps d (I.base.tbls b ps d e)
 ·obtain⟨m,S,T⟩:=I.loc
  refine⟨m,Q m S,λi x v A K W=>?_⟩;obtain⟨u,r,l⟩:=T i x v A K W;refine⟨u,r,?_⟩;rcases l with l | ⟨k,c,e,z⟩
  ·exact .inl l
  ·exact .inr ⟨k,c,e,h x c e _ z⟩
 ·obtain⟨v,z⟩:=I.cell x c e
  exact⟨v,h x c e v z⟩
 ·obtain⟨m,⟨o,_,_,B,_⟩,_⟩:=I.loc
  exact free _ o (λz=>(g _ z).2.1 rfl) B I.free
 ·obtain⟨v,o,B,hd⟩:=I.cell x c e
  exact free c o (λz=>(g c z).2.2.1 x c e rfl) B (I.freeC x c e)
 ·obtain⟨e,n,N,M,d⟩:=I.pin p O
  have f:p.1∉ch:=λz=>(g p.1 z).2.2.2 p O rfl
  exact⟨keep p.1 p.2 N M f e n,free p.1 p.2 f e n,N,M,d⟩
def Inv.un{t':Nat}(I:Inv X pins σ H s)(u:Un X.fs [] H H' s.heap h')(hok:xy X.prog X.w H' h'):Inv X pins σ H' {s with heap:=h',toks:=t' }:=by
 obtain⟨m,⟨o,es,q,g,r⟩,_⟩:=id I.loc;obtain⟨k,j⟩:=u.any g I.free (by simp)
 exact I.step (g':=s.gens) (d':=s.drawn) (ch:=[]) (λ_ z=>nomatch z) (λb o _ c _ e n=>u.keep b o e n c (by simp)) (λb o _ c _ e n=>u.slot b o e n c (by simp)) (λb o _ e n=>u.free b o e n (by simp)) (λb o _ e=>u.there b o e (by simp)) u.tups u.frzs u.tbls (λp i=>by
  obtain⟨l,d,f,a,h⟩:=i;rw[g] at a;cases a;exact⟨_,d,f,j,h⟩) hok I.bare
def Inv.call{t':Nat}(I:Inv X pins σ H s)(u:Un (HV X.stack) ch H H' s.heap h')(hok:xy X.prog X.w H' h')(q:AllBare g')
  (f:∀b∈ch,(b∈X.ex\/X.s₀.heap.objs.size<=b)/\b≠X.env.locals/\(∀x c,X.env.cells.lookup x=some c->c≠b)/\∀p∈X.pn++pins,p.1≠b) :
  Inv X pins σ H' {s with heap:=h',gens:=g',drawn:=d',toks:=t' }:=by
 obtain⟨m,⟨o,es,B,j,r⟩,_⟩:=id I.loc;obtain⟨v,g⟩:=u.any j I.free λz=>(f _ z).2.1 rfl
 exact I.step (ch:=ch) f (λb o g t a e n=>u.keep b o e n (λz=>(Wo.mp (I.stkSub b z)).elim g t) a) (λb o _ _ a e n=>u.any e n a) (λb o a e n=>u.free b o e n a) (λb o a e=>u.there b o e a) u.tups u.frzs u.tbls (λA l=>by
  obtain⟨y,h,i,d,k⟩:=l;rw[j] at d;cases d;exact⟨_,h,i,g,k⟩) hok q
def Inv.turned{t':Nat}(I:Inv X pins σ H s)(k:∀b o,b≠it->s.heap.get? b=some o->h'.get? b=some o)(h:H it=none)(f:it≠X.env.locals)
  (h1:it∈X.ex\/X.s₀.heap.objs.size<=it) (t:∀x c,X.env.cells.lookup x=some c->c≠it) (l:∀p∈X.pn++pins,p.1≠it):Inv X pins σ H {s with heap:=h',toks:=t' }:=by
 have d:∀b u,H b=some u->b≠it:=λb u e z=>by rw[z,h] at e;cases e
 refine I.step (g':=s.gens) (d':=s.drawn) (ch:=[it]) (λb j=>?_) (λb o _ _ a e _=>k b o (λz=>a (by simp[z])) e) (λb o _ _ a e _=>⟨o.slots,k b o (λz=>a (by simp[z])) e⟩) (λ_ _ _ _ n=>n)
  (λb o a e=>⟨o,k b o (λz=>a (by simp[z])) e⟩) (λ_ _ e=>e) (λ_ _ _ _ e=>e) (λ_ _ _ e=>e) (λm i=>?_) (λb u e=>?_) I.bare
 ·have e:b=it:=by simpa using j
  subst e;exact⟨h1,f,t,l⟩
 ·obtain⟨o,es,w,g,r⟩:=i
  exact⟨o,es,w,k _ o (Ne.symm f) g,r⟩
 ·refine(I.hok b u e).stay (λc v a q=>k c v ?_ q) (λ_ q=>q) (λ_ _ q=>q) λ_ _ _ q=>q
  rcases a with z | z
  ·rw[z];exact d b u e
  ·exact d c _ z
def Inv.tok(I:Inv X pins σ H s)(t:Nat):Inv X pins σ H {s with toks:=t}:=I.un (h':=s.heap) (t':=t) Un.refl I.hok
theorem Inv.kept{t':Nat}(I:Inv X pins σ H s)(k:∀b u,s.heap.get? b=some u->h'.get? b=some u):Inv X pins σ H {s with heap:=h',toks:=t' }:=I.un (Un.kept k) (I.hok.kept k)
theorem Inv.laid{t':Nat}(I:Inv X pins σ H s)(k:∀b u,s.heap.get? b=some u->h'.get? b=some u)(c:s.heap.objs.size<=a)(new:rO X.prog X.w (upd H a o) h' a o) :
  Inv X pins σ (upd H a o) {s with heap:=h',toks:=t' }:=I.un (Un.laid k c (I.hok.fresh c)) (I.hok.laid k c new)
theorem Inv.write{t':Nat}(I:Inv X pins σ H s)(c:SJ (H x))(d:e=x\/H e=some (.own x))(k:∀b u,b≠e->s.heap.get? b=some u->h'.get? b=some u)(a:∃u,h'.get? e=some u)
  (new:rO X.prog X.w (upd H x o) h' x o):Inv X pins σ (upd H x o) {s with heap:=h',toks:=t' }:=I.un (Un.write c d k a) (I.hok.write c d k a new)
def Inv.pins_of(I:Inv X pins σ H s)(h:∀p∈a,s.heap.get? p.1=some p.2/\H p.1=none/\p.1≠X.env.locals/\p.1∉X.fs/\∀v,p.2.data≠.cell v):Inv X a σ H s:=
 ⟨I.ok,I.os,I.bare,I.base,I.loc,I.cell,I.free,I.freeC,λp b=>(WY.mp b).elim (λz=>I.pin p (Xm _ z)) (h p),I.hok,I.len⟩
def Fh{N:List Str}(c:N.Nodup){i j:Nat}{x:Str}(a:N[i]?=some x)(b:N[j]?=some x):i=j:=by
 obtain⟨h1,e⟩:=Wm.mp a;obtain⟨f,d⟩:=Wm.mp b;exact(List.getElem_inj c).mp (e.trans d.symm)
def CQ{i:Nat}(I:Inv X pins σ H s)(hN:X.N.Nodup)(U:X.N[i]?=some x)(B:Loc X.env.scope x)(r:RelV v u)
  (h:∀s',Inv X pins (σ.set i (some v)) H s'->(∃a,Heap.SameBut a s.heap s'.heap/\(a=X.env.locals\/X.env.cells.lookup x=some a))->Q () s') (hf:X.fn x=true\/X.env.scope.names.lookup x=some .local:=by first | exact .inl rfl | exact .inr rfl | assumption):wpAny M A (storeName X.env x u) Q E s:=by
 obtain⟨m,hn,hl⟩:=id I.loc;have W:(X.env.scope.kind==.class||(X.env.scope.kind==.module&&X.env.locals != X.env.globals))=false:=by rw[I.ok.kind];rfl
 have J:i<σ.length:=by rw[I.len];exact(Wm.mp U).1
 have P:=I.cne
 have g:∀{a:V_} {h':WK},(∃o,s.heap.get? a=some o/\H a=none)->Heap.SameBut a s.heap h'->xy X.prog X.w H h':=λ{a h'} ha f b ob e=>by
  obtain⟨_,_,C⟩:=ha;refine(I.hok b ob e).stay (λc w' t q=>(f.2 c ?_).trans q) (λ_ q=>q) (λ_ _ q=>q) λ_ _ _ q=>q
  rintro rfl;rcases t with rfl | t
  ·rw[C] at e;cases e
  ·rw[C] at t;cases t
 rcases B with G | G
 ·refine wpAny_storeName_local G hn (λh' hn' f=>?_) W
  obtain⟨oL,_,_,hoL,_⟩:=id hn;refine h _ ⟨I.ok,I.os,I.bare,⟨λb o e n O B=>?_,λb o e n O B=>?_,I.base.free,λb o e B=>?_,I.base.tups,I.base.frzs,I.base.tbls⟩,⟨_,hn',λj y v' l F e3=>?_⟩,λy c e=>?_,I.free,I.freeC,λp hp=>?_,g ⟨oL,hoL,I.free⟩ f,by simpa using I.len⟩ ⟨_,f,.inl rfl⟩
  ·exact(f.2 b (WA (Wv (Wp e) I.ok.above))).trans (I.base.keep b o e n O B)
  ·obtain⟨sl,l⟩:=I.base.slot b o e n O B
   exact⟨sl,(f.2 b (WA (Wv (Wp e) I.ok.above))).trans l⟩
  ·obtain⟨o',l⟩:=I.base.there b o e B
   exact⟨o',(f.2 b (WA (Wv (Wp e) I.ok.above))).trans l⟩
  ·by_cases K:j=i
   ·subst K
    rw[U] at l;cases l;rw[Xl J] at F;cases F;exact⟨u,r,.inl ⟨G,by simp⟩⟩
   ·rw[W7 (Ne.symm K)] at F
    obtain⟨u',r',q⟩:=hl j y v' l F e3;refine⟨u',r',?_⟩;rcases q with ⟨k,e⟩ | ⟨k,c,e,z⟩
    ·refine .inl ⟨k,?_⟩
     have:y≠x:=λe=>K (Fh hN l (e ▸ U))
     simp[this,e]
    ·exact .inr ⟨k,c,e,z.sameBut f (P y c e)⟩
  ·obtain⟨w',z⟩:=I.cell y c e
   exact⟨w',z.sameBut f (P y c e)⟩
  ·obtain⟨e,n,ne,nf,d⟩:=I.pin p hp
   exact⟨(f.2 p.1 ne).trans e,n,ne,nf,d⟩
 ·have L:X.fn x=true:=by
   rcases hf with z | z
   ·exact z
   ·rw[z] at G;cases G
  obtain⟨c,t⟩:=I.ok.has x (.inl G);obtain⟨w',z⟩:=I.cell x c t;refine wpAny_storeName_cell I.ok.kind G t z (λh' Z f=>?_);obtain⟨oc,T,S⟩:=id z;refine h {s with heap:=h' } ⟨I.ok,I.os,I.bare,⟨λb o e n O B=>?_,λb o e n O B=>?_,I.base.free,λb o e B=>?_,I.base.tups,I.base.frzs,I.base.tbls⟩,⟨m,hn.sameBut f (Ne.symm (P x c t)),λj y v' l F e3=>?_⟩,λy c' e=>?_,I.free,I.freeC,λp hp=>?_,g ⟨oc,T,I.freeC x c t⟩ f,by simpa using I.len⟩ ⟨c,f,.inr t⟩
  ·exact(f.2 b (WA (Wv (Wp e) (I.ok.cab x c L t)))).trans (I.base.keep b o e n O B)
  ·obtain⟨sl,l⟩:=I.base.slot b o e n O B
   exact⟨sl,(f.2 b (WA (Wv (Wp e) (I.ok.cab x c L t)))).trans l⟩
  ·obtain⟨o',l⟩:=I.base.there b o e B
   exact⟨o',(f.2 b (WA (Wv (Wp e) (I.ok.cab x c L t)))).trans l⟩
  ·by_cases K:j=i
   ·subst K
    rw[U] at l;cases l;rw[Xl J] at F;cases F;exact⟨u,r,.inr ⟨.inl G,c,t,Z⟩⟩
   ·rw[W7 (Ne.symm K)] at F
    obtain⟨u',r',q⟩:=hl j y v' l F e3;refine⟨u',r',?_⟩;rcases q with q | ⟨k,c',e,z'⟩
    ·exact .inl q
    ·refine .inr ⟨k,c',e,z'.sameBut f ?_⟩
     rintro rfl;exact K (Fh hN l (I.ok.inj _ _ _ e t ▸ U))
  ·by_cases Y:c'=c
   ·subst Y;exact⟨_,Z⟩
   ·obtain⟨w2,z2⟩:=I.cell y c' e
    exact⟨w2,z2.sameBut f Y⟩
  ·obtain⟨e,n,ne,nf,d⟩:=I.pin p hp
   refine⟨(f.2 p.1 ?_).trans e,n,ne,nf,d⟩;intro q;rw[q,T] at e;have q':oc=p.2:=Wq e;exact d w' (by rw[<- q'];exact S)
def Fm{i:Nat}(I:Inv X pins σ H s)(e:X.N.Nodup)(c:X.N[i]?=some x)(b:Loc X.env.scope x)(r:RelV v u)
  (h:∀a,Inv X pins (σ.set i (some v)) H a->Q () a) (d:X.fn x=true\/X.env.scope.names.lookup x=some .local:=by first | exact .inl rfl | exact .inr rfl | assumption):wpAny M A (storeName X.env x u) Q E s:=
 CQ I e c b r (λa f _=>h a f) d
def Inv.call'(I:Inv X pins σ H s)(g:a.os=s.os)(u:Un (HV X.stack) ch H H' s.heap a.heap)(hok:xy X.prog X.w H' a.heap)(h:AllBare a.gens)
  (d:∀b∈ch,(b∈X.ex\/X.s₀.heap.objs.size<=b)/\b≠X.env.locals/\(∀x c,X.env.cells.lookup x=some c->c≠b)/\∀p∈X.pn++pins,p.1≠b):Inv X pins σ H' a:=by
 obtain⟨h',g',d',t',f⟩:=a;have e:f=s.os:=g;subst e;exact I.call (g':=g') (t':=t') (d':=d') u hok h d
end
abbrev XK:=V5->V3 V_->Hp->Prop
abbrev St:=List (V3 V)
abbrev VK:=V->Hp->Prop
abbrev TE:=St->Hp->VK->Prop
abbrev TT:=St->Hp->(Bool->Hp->Prop)->Prop
abbrev TA:=St->Hp->(List V->Hp->Prop)->Prop
structure Ends where
 nx:St->Hp->Prop
 rt:VK
 bk:St->Hp->Prop:=λ_ _=>False
 ct:St->Hp->Prop:=λ_ _=>False
abbrev TS:=Ends->St->Hp->Prop
def EP(X:Cx)(a:List (V_×Obj))(c:St)(Q:VK)(u:V5)(d:V7):Prop:=∃v b,Inv X a c b d/\RelV v u/\Q v b
def TP(X:Cx)(a:List (V_×Obj))(d:St)(Q:Bool->Hp->Prop)(b:Bool)(e:V7):Prop:=∃c,Inv X a d c e/\Q b c
def AP(X:Cx)(a:List (V_×Obj))(d:St)(Q:List V->Hp->Prop)(us:List V5)(e:V7):Prop:=∃b c,Inv X a d c e/\qP b us/\Q b c
def SP(X:Cx)(b:List (V_×Obj))(D:Ends)(f:Flow)(d:V7):Prop:=
 match f with
 | .next=>∃ a c,Inv X b a c d/\D.nx a c
 | .brk=>∃ a c,Inv X b a c d/\D.bk a c
 | .cont=>∃ a c,Inv X b a c d/\D.ct a c
 | .ret u=>∃v a c,Inv X b a c d/\RelV v u/\D.rt v c
def PE(X:Cx)(e:WG)(t:TE):Prop:=
 ∀(a:List (V_×Obj)) (s:V7) (b:St) (H:Hp) (Q:VK),Inv X a b H s->t b H Q->wpAny (model X.prog X.w) X.A (eval e X.env) (EP X a b Q) X.xe s
def PT(X:Cx)(e:WG)(t:TT):Prop:=
 ∀(a:List (V_×Obj)) (s:V7) (b:St) (H:Hp) (Q:Bool->Hp->Prop),Inv X a b H s->t b H Q->wpAny (model X.prog X.w) X.A (isTrue e X.env (eval e X.env)) (TP X a b Q) X.xe s
def PW(X:Cx)(e:WG)(t:TT):Prop:=
 ∀(whole:Sem V5) (a:List (V_×Obj)) (s:V7) (b:St) (H:Hp) (Q:Bool->Hp->Prop),Inv X a b H s->t b H Q->wpAny (model X.prog X.w) X.A (isTrue e X.env whole) (TP X a b Q) X.xe s
def PW.pt(h:PW X e t):PT X e t:=h _
def PA(X:Cx)(es:List WG)(t:TA):Prop:=
 ∀(pos:Pos) (a:List (V_×Obj)) (s:V7) (b:St) (H:Hp) (Q:List V->Hp->Prop),Inv X a b H s->t b H Q->wpAny (model X.prog X.w) X.A (spliced (backTo pos (starEach es X.env))) (AP X a b Q) X.xe s
def PS(X:Cx)(st:Xi)(t:TS):Prop:=
 ∀(a:List (V_×Obj)) (s:V7) (b:St) (H:Hp) (D:Ends),Inv X a b H s->t D b H->wpAny (model X.prog X.w) X.A (exec st X.env) (SP X a D) X.xe s
def PSs(X:Cx)(st:List Xi)(t:TS):Prop:=
 ∀(a:List (V_×Obj)) (s:V7) (b:St) (H:Hp) (D:Ends),Inv X a b H s->t D b H->wpAny (model X.prog X.w) X.A (execs st X.env) (SP X a D) X.xe s
def rg(h:wpAny M A t Q E s)(d:∀a s,Q a s->c a s):wpAny M A t c E s:=Xj h d λ_ _ x=>x
end L2
namespace L2
open PySem PySem.Spec PyProof.Rows
section
variable{X:Cx}
def bin{a b:WG}{n m:TE}(z:PE X a n)(t:PE X b m){c:List (V_×Obj)}{s:V7}{e:St}{H:Hp}{R:V->V->Hp->Prop}(I:Inv X c e H s)(h:n e H λx k=>m e k λy g=>R x y g)
  {l:Type} {Q:l->V7->Prop} {f:V5->V5->Sem l}
  (r:∀v u s2 x y g,Inv X c e g s2->RelV x v->RelV y u->R x y g->wpAny (model X.prog X.w) X.A (f v u) Q X.xe s2) :
  wpAny (model X.prog X.w) X.A (eval a X.env) (λv j=>wpAny (model X.prog X.w) X.A (eval b X.env) (λu i=>wpAny (model X.prog X.w) X.A (f v u) Q X.xe i) X.xe j) X.xe s:=by
 refine rg (z c s e H _ I h) λv s1 d=>?_
 obtain⟨x,k,C,r1,q⟩:=d;refine rg (t c s1 e k _ C q) λu s2 d=>?_
 obtain⟨y,g,B,o,p⟩:=d;exact r v u s2 x y g B r1 o p
def Sx(i:Nat):TE:=λa H Q=>∃v,a[i]?=some (some v)/\Q v H
def tC(v:V):TE:=λ_ H Q=>Q v H
def gB{i:Nat}(q:X.N[i]?=some x)(k:Do X.env.scope x)(hd:(x==("__debug__" : Str))=false:=by decide)(f:(x==("__classdict__" : Str))=false:=by decide):PE X (.Name x pos) (Sx i):=by
 intro d s j H Q I h;obtain⟨v,e,h⟩:=h;obtain⟨m,n,p⟩:=I.loc;obtain⟨u,r,l⟩:=p i x v q e k;have fin:EP X d j Q u s:=⟨v,H,I,r,h⟩
 rcases l with ⟨b,o⟩ | ⟨b,c,g,a⟩
 ·exact wpAny_Name (wpAny_loadName_local I.ok.kind b n o fin) hd
 ·rcases b with b | b
  ·exact wpAny_Name (wpAny_loadName_cell I.ok.kind b g a fin) hd
  ·exact wpAny_Name (wpAny_loadName_free I.ok.kind b g a fin f) hd
def Q6{i j pos}:PE X (.Constant (.int i) j pos) (tC (.int i)):=λ_ _ _ H _ I h=>wpAny_Constant_int ⟨.int i,H,I.tok _,⟨_,rfl⟩,h⟩
def R0{b j pos}:PE X (.Constant (.bool b) j pos) (tC (.bl b)):=λ_ _ _ H _ I h=>Constant_bool ⟨.bl b,H,I,rfl,h⟩
def Qb{j pos}:PE X (.Constant .none j pos) (tC .non):=λ_ _ _ H _ I h=>Constant_none ⟨.non,H,I,rfl,h⟩
def Qu{x j pos}:PE X (.Constant (.str x) j pos) (tC (.str x)):=λ_ _ _ H _ I h=>Calls.Constant_str ⟨.str x,H,I.tok _,⟨_,rfl⟩,h⟩
def Gl(X:Cx)(x:Str):Prop:=X.env.kindOf x=some .globalImplicit
def gD(I:Inv X a b H s)(d:Gl X x)(c:X.mg x=some u)(h:Q u s)
  (hd:(x==("__debug__" : Str))=false:=by decide):wpAny (model X.prog X.w) X.A (eval (.Name x pos) X.env) Q E s:=
 Calls.Name_function_global I.ok.kind d (Calls.loadGlobal_global (by rw[I.ok.glob];exact I.mod.glob.keeps I.bk) c h) hd
def aE(I:Inv X a b H s)(f:Gl X x)(e:X.mg x=none)(c:bootBuiltins x=some u)(h:Q u s)
  (d:x ≠ "__name__":=by decide) (hd:(x==("__debug__" : Str))=false:=by decide):wpAny (model X.prog X.w) X.A (eval (.Name x pos) X.env) Q E s:=by
 obtain⟨i,h1,g⟩:=I.mod.blt;exact Calls.Name_function_global I.ok.kind f (Calls.loadGlobal_builtin (by rw[I.ok.glob];exact I.mod.glob.keeps I.bk) e (by rw[I.ok.blt];exact h1.keeps I.bk) ((g x d).trans c) h) hd
def ge(b:Gl X x)(a:X.mg x=some u)(r:RelV v u)(hd:(x==("__debug__" : Str))=false:=by decide):PE X (.Name x pos) (tC v):=
 λ_ _ _ H _ I h=>gD I b a ⟨v,H,I,r,h⟩ hd
def nQ(d:Gl X x)(c:X.mg x=none)(a:bootBuiltins x=some u)(r:RelV v u)(b:x ≠ "__name__":=by decide)(hd:(x==("__debug__" : Str))=false:=by decide):PE X (.Name x pos) (tC v):=
 λ_ _ _ H _ I h=>aE I d c a ⟨v,H,I,r,h⟩ b hd
variable{a b:WG}{ta tb:TE}{pos:Pos}
def PC(X:Cx)(g:CmpOp)(a b:WG)(t:TE):Prop:=
 ∀(c:List (V_×Obj)) (s:V7) (f:St) (H:Hp) (Q:VK),Inv X c f H s->t f H Q ->
  wpAny (model X.prog X.w) X.A (eval a X.env) (λv e=>wpAny (model X.prog X.w) X.A (eval b X.env) (λu d=>wpAny (model X.prog X.w) X.A (compareOp g v u) (EP X c f Q) X.xe d) X.xe e) X.xe s
def tB(t:TE):TT:=λd H Q=>t d H λx e=>∃c,x=.bl c/\Q c e
def pE(h:PC X f a b t)(h1:behindInMarks f b=false:=by first | exact nobehind _ (by decide) (by decide) | rfl):PT X (.Compare a [f] [b] pos) (tB t):=by
 intro e s i H Q I k;refine wpAny_isTrue_Compare1 (rg (h e s i H _ I k) λv s1 h1=>rg h1 λu s2 l=>rg l λc s3 g=>?_) h1;obtain⟨x,n,m,r1,j⟩:=g;obtain⟨d,rfl,q⟩:=j;cases r1;exact wpAny_truthy_bool ⟨n,m,q⟩
variable{tA tB':TT}{rest:List WG}
def UB(t u:TT):TT:=λd H Q=>t d H λc e=>if c=true then u d e Q else Q false e
def VT(t u:TT):TT:=λd H Q=>t d H λc e=>if c=true then Q true e else u d e Q
def TZ(t:TT):TT:=λd H Q=>t d H λc e=>Q (!c) e
def MV(g:PT X a tA):PW X (.BoolOp .And [a] pos) tA:=by
 intro i d s f H Q I h;refine isTrue_and (rg (g d s f H Q I h) λc s1 e=>?_);cases c with
 | true=>exact isTrue_and_nil e
 | false=>exact e
def Rm(g:PT X a tA):PW X (.BoolOp .Or [a] pos) tA:=by
 intro i d s f H Q I h;refine isTrue_or (rg (g d s f H Q I h) λc s1 e=>?_);cases c with
 | false=>exact isTrue_or_nil e
 | true=>exact e
def P_(l:PT X a tA)(k:PW X (.BoolOp .And (b::rest) pos) tB'):PW X (.BoolOp .And (a::b::rest) pos) (UB tA tB'):=by
 intro j d s e H Q I h;refine isTrue_and (rg (l d s e H _ I h) λc s1 ⟨i,g,f⟩=>?_);cases c with
 | true=>exact k j d s1 e i Q g f
 | false=>exact⟨i,g,f⟩
def RX(l:PT X a tA)(k:PW X (.BoolOp .Or (b::rest) pos) tB'):PW X (.BoolOp .Or (a::b::rest) pos) (VT tA tB'):=by
 intro j d s e H Q I h;refine isTrue_or (rg (l d s e H _ I h) λc s1 ⟨i,g,f⟩=>?_);cases c with
 | true=>exact⟨i,g,f⟩
 | false=>exact k j d s1 e i Q g f
def oG(f:PT X a tA):PT X (.UnaryOp .Not a pos) (TZ tA):=by
 intro d s e H Q I h;exact isTrue_not (f d s e H (λc g=>Q (!c) g) I h)
def RT(ta tb:TE):TE:=λd H Q=>ta d H λx e=>∃c,x=.bl c/\if c=true then tb d e Q else Q (.bl false) e
def So(ta:TE):TE:=λd H Q=>ta d H λx e=>∃c,x=.bl c/\Q (.bl (!c)) e
def oE{op}(h:PE X a t):PE X (.BoolOp op [a] pos) t:=λc s d H Q I e=>BoolOp_one (h c s d H Q I e)
def pB(l:PE X a ta)(k:PE X (.BoolOp .And (b::rest) pos) tb):PE X (.BoolOp .And (a::b::rest) pos) (RT ta tb):=by
 intro d s g H Q I h;refine BoolOp_and (rg (l d s g H _ I h) λv s1 f=>?_);obtain⟨x,j,i,r1,e⟩:=f;obtain⟨c,rfl,e⟩:=e;cases r1;refine wpAny_truthy_bool ?_;cases c with
 | true=>exact k d s1 g j Q i e
 | false=>exact⟨.bl false,j,i,rfl,e⟩
def oQ(i:PE X a ta):PE X (.UnaryOp .Not a pos) (So ta):=by
 intro d s g H Q I h;refine UnaryOp_ (rg (i d s g H _ I h) λv s1 f=>?_);obtain⟨x,k,j,r1,e⟩:=f;obtain⟨c,rfl,e⟩:=e;cases r1;exact not_of (wpAny_truthy_bool ⟨.bl (!c),k,j,rfl,e⟩)
def Vz(t:TT)(ta tb:TE):TE:=λd H Q=>t d H λc e=>if c=true then ta d e Q else tb d e Q
def mr(k:PT X c tA)(m:PE X a ta)(l:PE X b tb):PE X (.IfExp c a b pos) (Vz tA ta tb):=by
 intro e s f H Q I h;refine wpAny_IfExp (rg (k e s f H _ I h) λd s1 ⟨j,i,g⟩=>?_);cases d with
 | true=>exact m e s1 f j Q i g
 | false=>exact l e s1 f j Q i g
end
end L2
namespace L2
open PySem PySem.Spec PyProof.Rows
def uI(K:Wb)(H:Hp)(a:V_)(xs:List V):Prop:=
 Rd H a (.lst xs) \/
  ∃(o:Obj) (b:Array V5) (n:Nat),K.lookup a=some o/\o.cls=.type "list" /\ o.dict=none/\o.data=.seq b n/\b.size<=sizeLine/\qP xs b.toList
def tS(K:Wb)(H:Hp)(a:V_)(xs:List V):Prop:=
 Rd H a (.tup xs) \/
  ∃(o:Obj) (b:Array V5) (n:Nat),K.lookup a=some o/\o.cls=.type "tuple" /\ o.dict=none/\o.data=.seq b n/\b.size<=sizeLine/\qP xs b.toList
def Uv:V5->V3 V
 | .none=>some .non
 | .bool b=>some (.bl b)
 | .int i _=>some (.int i)
 | .str x _=>some (.str x)
 | .bytes b _=>some (.byt b)
 | .float b _=>some (.flt b)
 | .ref a=>some (.ref a)
 | .type n=>some (.ty n)
 | _=>none
def RelV.abs(r:RelV x u):Uv u=some x:=by
 cases x with
 | non=>cases r;rfl
 | bl _=>cases r;rfl
 | int _=>obtain⟨t,rfl⟩:=r;rfl
 | str _=>obtain⟨t,rfl⟩:=r;rfl
 | byt _=>obtain⟨t,rfl⟩:=r;rfl
 | flt _=>obtain⟨t,rfl⟩:=r;rfl
 | ref _=>cases r;rfl
 | ty _=>cases r;rfl
def RelV.inj(r:RelV x u)(q:RelV y u):x=y:=Wq (r.abs.symm.trans q.abs)
theorem qP.inj:∀{xs a:List V} {us:List V5},qP xs us->qP a us->xs=a
 | _,_,_,.nil,.nil=>rfl
 | _,_,_,.cons r t,.cons r' t'=>by rw[r.inj r',qP.inj t t']
section
variable{X:Cx}{pins:List (V_×Obj)}{σ:St}{H:Hp}{s:V7}{a:V_}{xs ys:List V}
def uI.of{K:Wb}(h:H a=some (.lst xs)):uI K H a xs:=.inl (.inl h)
def tS.of{K:Wb}(h:H a=some (.tup xs)):tS K H a xs:=.inl (.inl h)
def Inv.list(I:Inv X pins σ H s)(h:uI X.K H a xs):∃b:List V5,qP xs b/\PlainL s.heap a b.toArray/\xs.length<=sizeLine:=by
 rcases h with h | ⟨o,b,n,d,f,hd,c,hz,r⟩
 ·obtain⟨z,b,n,r,e⟩:=h.ok I.hok
  exact⟨b,r,⟨_,n,e,rfl,rfl,rfl⟩,z⟩
 ·refine⟨b.toList,r,⟨o,n,I.kIn a o d,f,hd,by simpa using c⟩,?_⟩
  have e:=r.length;simp only[WL] at e;omega
def Inv.tuple(I:Inv X pins σ H s)(h:tS X.K H a xs):∃b:List V5,qP xs b/\IsTup s.heap a b.toArray/\xs.length<=sizeLine:=by
 rcases h with h | ⟨o,b,n,d,f,hd,c,hz,r⟩
 ·obtain⟨z,b,r,p⟩:=h.ok I.hok
  exact⟨b,r,p.is,z⟩
 ·refine⟨b.toList,r,⟨o,I.kIn a o d,f,n,by simpa using c⟩,?_⟩
  have e:=r.length;simp only[WL] at e;omega
def Inv.list_inj(I:Inv X pins σ H s)(h:uI X.K H a xs)(h':uI X.K H a ys):xs=ys:=by
 obtain⟨b,r,⟨o,n,e,_,_,d⟩,_⟩:=I.list h;obtain⟨its',f,⟨g,i,c,_,_,d'⟩,_⟩:=I.list h';rw[e] at c;cases c;rw[d] at d';injection d' with d1 _
 have:b=its':=by simpa using congrArg Array.toList d1
 subst this;exact r.inj f
def Inv.tuple_inj(I:Inv X pins σ H s)(h:tS X.K H a xs)(h':tS X.K H a ys):xs=ys:=by
 obtain⟨b,r,⟨o,e,_,n,d⟩,_⟩:=I.tuple h;obtain⟨its',f,⟨g,c,_,i,d'⟩,_⟩:=I.tuple h';rw[e] at c;cases c;rw[d] at d';injection d' with d1 _
 have:b=its':=by simpa using congrArg Array.toList d1
 subst this;exact r.inj f
end
abbrev Cx.wish(X:Cx)(E:V5->V7->Prop):Cx:={X with xe:=E}
abbrev Cx.nox(X:Cx):Cx:=X.wish λ_ _=>False
theorem Cx.Ok.wish{X:Cx}(ok:X.Ok)(E:V5->V7->Prop):(X.wish E).Ok:=
 ⟨ok.mod,ok.kind,ok.glob,ok.blt,ok.above,ok.inj,ok.has,ok.cab,ok.hd,ok.frames,ok.stk,ok.exf,ok.bs,ok.bsz,ok.noex,ok.exfs,ok.funs,ok.frf⟩
def Cx.Ok.unwish{X:Cx}{E:V5->V7->Prop}(ok:(X.wish E).Ok):X.Ok:=
 ⟨ok.mod,ok.kind,ok.glob,ok.blt,ok.above,ok.inj,ok.has,ok.cab,ok.hd,ok.frames,ok.stk,ok.exf,ok.bs,ok.bsz,ok.noex,ok.exfs,ok.funs,ok.frf⟩
section
variable{X:Cx}{pins:List (V_×Obj)}{σ:St}{H:Hp}{s:V7}{E:V5->V7->Prop}
theorem Inv.wish(I:Inv X pins σ H s)(E:V5->V7->Prop):Inv (X.wish E) pins σ H s:=⟨I.ok.wish E,I.os,I.bare,I.base,I.loc,I.cell,I.free,I.freeC,I.pin,I.hok,I.len⟩
theorem Inv.unwish(I:Inv (X.wish E) pins σ H s):Inv X pins σ H s:=⟨I.ok.unwish,I.os,I.bare,I.base,I.loc,I.cell,I.free,I.freeC,I.pin,I.hok,I.len⟩
theorem SP.unwish{D:Ends}(h:SP (X.wish E) pins D f c):SP X pins D f c:=by
 cases f with
 | next=>obtain⟨a,b,I,q⟩:=h;exact⟨a,b,I.unwish,q⟩
 | brk=>obtain⟨a,b,I,q⟩:=h;exact⟨a,b,I.unwish,q⟩
 | cont=>obtain⟨a,b,I,q⟩:=h;exact⟨a,b,I.unwish,q⟩
 | ret u=>obtain⟨v,a,b,I,r,q⟩:=h;exact⟨v,a,b,I.unwish,r,q⟩
theorem PSs.nox{st:List Xi}{t:TS}(h:PSs X.nox st t):PSs X st t:=λpins s σ H D I a =>
 Xj (h pins s σ H D (I.wish _) a) (λ_ _ q=>q.unwish) λ_ _ z=>False.elim z
end
section
variable{X:Cx}{st:Xi}{rest:List Xi}{t u:TS}{e:WG}{te:TE}{pos:Pos}
def SX:TS:=λD a H=>D.nx a H
def T1(t u:TS):TS:=λD a H=>t {D with nx:=u D} a H
def Ab:PSs X [] SX:=λ_ _ a H _ I h=>wpAny_execs_nil ⟨a,H,I,h⟩
def aS(h1:PS X st t)(d:PSs X rest u):PSs X (st::rest) (T1 t u):=by
 intro a s c H D I h;refine wpAny_execs_cons (rg (h1 a s c H {D with nx:=u D} I h) λf s1 q=>?_);cases f with
 | next =>
  obtain⟨b,i,g,q⟩:=q;exact d a s1 b i D g q
 | ret v=>exact q
 | brk=>exact q
 | cont=>exact q
def bK(h1:PS X st t):PSs X [st] t:=by
 intro a s b H D I h;refine wpAny_execs_cons (rg (h1 a s b H D I h) λf s1 q=>?_);cases f with
 | next=>exact wpAny_execs_nil q
 | ret v=>exact q
 | brk=>exact q
 | cont=>exact q
def Inv.quiet(I:Inv X a b H s):interactive X.env=false:=by simp[interactive,I.ok.kind]
def T8(te:TE):TS:=λD a H=>te a H D.rt
def gM(d:PE X e te):PS X (.Return (some e) pos) (T8 te):=by
 intro a s b H D I h;exact wpAny_Return_some (rg (d a s b H _ I h) λv s1 ⟨x,g,f,r1,c⟩=>⟨x,b,g,f,r1,c⟩)
def U3(c:TT)(t u:TS):TS:=λD a H=>c a H λb d=>if b=true then t D a d else u D a d
def jU(m:PT X c i)(o:PSs X a t)(n:PSs X b u):PS X (.If c a b pos) (U3 i t u):=by
 intro f s g H D I h;refine wpAny_If (rg (m f s g H _ I h) λd s1 ⟨l,k,j⟩=>?_);cases d with
 | true=>exact o f s1 g l D k j
 | false=>exact n f s1 g l D k j
end
abbrev TG:=V->St->Hp->(St->Hp->Prop)->Prop
abbrev MW:=List V->St->Hp->(St->Hp->Prop)->Prop
def PG(X:Cx)(a:WG)(t:TG):Prop:=
 ∀(b:List (V_×Obj)) (s:V7) (d:St) (H:Hp) (v:V) (u:V5) (Q:St->Hp->Prop),Inv X b d H s->RelV v u->t v d H Q ->
  wpAny (model X.prog X.w) X.A (assign a X.env u) (λ_ f=>∃ c e,Inv X b c e f/\Q c e) X.xe s
def PGs(X:Cx)(f:List WG)(t:MW):Prop:=
 ∀(a:List (V_×Obj)) (s:V7) (c:St) (H:Hp) (d:List V) (us:List V5) (Q:St->Hp->Prop),Inv X a c H s->qP d us->t d c H Q ->
  wpAny (model X.prog X.w) X.A (assignInOrder ((assignEach f X.env).map (·.2)) us) (λ_ g=>∃ b e,Inv X a b e g/\Q b e) X.xe s
section
variable{X:Cx}{pos:Pos}
def Pj(i:Nat):TG:=λv a H Q=>Q (a.set i (some v)) H
def mT{i:Nat}(e:X.N.Nodup)(c:X.N[i]?=some x)(b:Loc X.env.scope x)(d:X.fn x=true\/X.env.scope.names.lookup x=some .local:=by first | exact .inl rfl | exact .inr rfl | assumption):PG X (.Name x pos) (Pj i):=by
 intro a s g H v u Q I r h;exact wpAny_assign_Name (Fm I e c b r (λj f=>⟨_,H,f,h⟩) d)
def TY:MW:=λb a H Q=>b=[]/\Q a H
def SF(t:TG)(u:MW):MW:=λc b H Q=>∃v r,c=v::r/\t v b H λa d=>u r a d Q
def MY:PGs X [] TY:=by
 intro a s b H c us Q I r h;obtain⟨e,h⟩:=h;subst e;cases r;exact assignInOrder_nil ⟨b,H,I,h⟩
def LB(h1:PG X e t)(i:PGs X es u)
  (g:(assignEach (e::es) X.env).map (·.2)=assign e X.env::(assignEach es X.env).map (·.2):=by rfl):PGs X (e::es) (SF t u):=by
 intro a s d H m us Q I r h;obtain⟨v,n,j,h⟩:=h;subst j;cases r with
 | cons r rr =>
  rw[g];refine assignInOrder_cons (rg (h1 a s d H _ _ _ I r h) λ_ s1 c=>?_);obtain⟨b,l,k,f⟩:=c;exact i a s1 b l _ _ Q k rr f
def UF(K:Wb)(n:Nat)(t:MW):TG:=λv b H Q=>∃a xs,v=.ref a/\tS K H a xs/\xs.length=n/\t xs b H Q
def ox{k:Nat}{n:Nat}(x:X.calm=true)(h:PGs X es t)
  (q:(assignEach es X.env).length=n:=by rfl) (f:(assignEach es X.env).findIdx? (·.1)=none:=by rfl):PG X (.Tuple es k pos) (UF X.K n t):=by
 intro c s g H v u Q I r d;obtain⟨a,xs,y,p,w,d⟩:=d;subst y;cases r;obtain⟨j,i,m,hz⟩:=I.tuple p;refine assign_Tuple_tuple (I.ok.hd x) m (by simp[q,<- w,i.length]) f λh' l=>?_
 have z:Inv X c g H {s with heap:=h' }:=I.kept (t':=s.toks) λb o e=>l b o (WA (Wp e)) e
 exact h c _ g H xs _ Q z (by simpa using i) d
def Tf(b:TE)(g:TG):TS:=λD a H=>b a H λx c=>g x a c D.nx
def pq(l:PE X e d)(k:PG X tg g)(j:swapsWithSole [tg] e pos.line X.env=pure false:=by rfl)(i:swappedStores [tg] e X.env=pure none:=by rfl)
  (h1:(assignEach [tg] X.env).map (·.2)=[assign tg X.env]:=by rfl):PS X (.Assign [tg] e pos) (Tf d g):=by
 intro a s c H D I h;refine wpAny_Assign_stores (rg (l a s c H _ I h) λv s1 b=>?_) j i;obtain⟨x,n,m,r1,f⟩:=b;rw[h1];exact rg (k a s1 c n x v _ m r1 f) λ_ s2 q=>q
def cR{i:Nat}(n:X.N.Nodup)(k:X.N[i]?=some x)(g:Loc X.env.scope x)(m:PE X e c)(j:swapsWith e (some (.Name x pos')) pos.line X.env=pure false:=by rfl)(l:X.fn x=true\/X.env.scope.names.lookup x=some .local:=by first | exact .inl rfl | exact .inr rfl | assumption) :
  PS X (.Assign [.Name x pos'] e pos) (Tf c (Pj i)):=by
 intro a s d H D I h;refine wpAny_Assign_Name (rg (m a s d H _ I h) λv s1 b=>?_) j;obtain⟨y,q,p,r1,f⟩:=b;exact Fm p n k g r1 (λs2 o=>⟨_,q,o,f⟩) l
end
section
variable{X:Cx}{pos:Pos}
def Rk(c:TT)(h:TS):TS:=λD a H=>∃W:Nat->St->Hp->Prop,(∃m,W m a H)/\∀m a H,W m a H ->
 c a H λb f=>if b=true then ∃N:St->Hp->Prop,(∀ d g,N d g->∃e,e<m/\W e d g)/\h {D with nx:=N,ct:=N,bk:=D.nx} a f else D.nx a f
def fJ(u:PassesOwn (model X.prog X.w) X.A X.env X.xe)(G:PT X c r)(J:PSs X body t):PS X (.While c body [] pos) (Rk r t):=by
 intro d s E H D I h;obtain⟨W,⟨m0,w0⟩,i⟩:=h;refine wpAny_While (codeAny_whileLoop (λn F=>∃ g C,Inv X d g C F/\W n g C) ?_ m0 ⟨E,H,I,w0⟩);rintro n s1 ⟨e,B,K,w1⟩;refine wpAny_passesOwn u (rg (G d s1 e B _ K (i n e B w1)) λb s2 ⟨z,y,l⟩=>?_);cases b with
 | true =>
  obtain⟨N,x,l⟩:=l;rw[Wc rfl];refine wpAny_passesOwn u (rg (J d s2 e z _ y l) λf s3 k=>?_);cases f with
  | next =>
   obtain⟨a,j,q,m⟩:=k;obtain⟨o,p,w3⟩:=x a j m;exact⟨o,p,a,j,q,w3⟩
  | cont =>
   obtain⟨a,j,q,m⟩:=k;obtain⟨o,p,w3⟩:=x a j m;exact⟨o,p,a,j,q,w3⟩
  | brk=>exact k
  | ret v=>exact k
 | false =>
  rw[Wu We];exact wpAny_execs_nil ⟨e,z,y,l⟩
end
structure It where
 go:Nat->Hp->Prop
 yld:Nat->Hp->V->Hp->Prop
 stop:Nat->Hp->Prop
def vP(X:Cx)(a:List (V_×Obj))(H:Hp)(b:V_):Prop:=
 H b=none/\b≠X.env.locals/\b∉X.fs/\(b∈X.ex\/X.s₀.heap.objs.size<=b)/\(∀x c,X.env.cells.lookup x=some c->c≠b)/\∀p∈X.pn++a,p.1≠b
def Inv.fpOk(I:Inv X a g H s)(d:s.heap.objs.size<=b)(i:f b=none):vP X a f b:=by
 refine⟨i,Nat.ne_of_gt (Wv I.lt d),I.nofs d,.inr (WD I.sz d),λx c e z=>?_,λp h z=>?_⟩
 ·obtain⟨v,q⟩:=I.cell x c e
  exact Wz (Wv q.lt (by rw[z];exact d)) (Xf _)
 ·exact Wz (Wv (Wp (I.pin p h).1) (by rw[z];exact d)) (Xf _)
structure Turn (P:Wr) (w:WC) (K:Wb) (tg:WG) (J:It) (fp:List V_) (it:V_) (tn:Nat->WK->Prop):Prop where
 mem:it∈fp
 obj:∀i h,tn i h->∀b∈fp,∃o,h.get? b=some o/\∀v,o.data≠.cell v
 keep:∀i h h',tn i h->(∀b∈fp,∀o,h.get? b=some o->h'.get? b=some o)->tn i h'
 item:∀(X:Cx),X.prog=P->X.w=w->X.K=K->X.calm=true->∀(i:Nat) (pins:List (V_×Obj)) (s:V7) (σ:St) (H:Hp) (E:V5->V7->Prop),Inv X pins σ H s->(∀b∈fp,vP X pins H b)->tn i s.heap->J.go i H ->
  wpAny (model P w) X.A (pyNext (.ref it)) (λr s1=>∃u,r=some u /\
   wpAny (model P w) X.A (letOwnedTupleGo tg (.ref it) u) (λ_ s2=>∃x H',Inv X pins σ H' s2/\RelV x u/\J.yld i H x H'/\tn (i+1) s2.heap/\∀b∈fp,H' b=none) E s1) E s
 done:∀(X:Cx),X.prog=P->X.w=w->X.K=K->X.calm=true->∀(i:Nat) (pins:List (V_×Obj)) (s:V7) (σ:St) (H:Hp) (E:V5->V7->Prop),Inv X pins σ H s->(∀b∈fp,vP X pins H b)->tn i s.heap->J.stop i H ->
  wpAny (model P w) X.A (pyNext (.ref it)) (λr s1=>r=none/\Inv X pins σ H s1) E s
 self:∀(A:WM) (i:Nat) (s:V7) (Q:V5->V7->Prop) (E:V5->V7->Prop),tn i s.heap->Q (.ref it) s->wpAny (model P w) A (pyIter (.ref it)) Q E s
abbrev TI:=St->Hp->(It->Hp->Prop)->Prop
def Vc(X:Cx)(a:List (V_×Obj))(f:St)(tg:WG)(R:It->Hp->Prop)(c:V5)(s2:V7):Prop:=
 ∃(it:V_) (fp:List V_) (e:Nat->WK->Prop) (J:It) (d:Hp),c=.ref it/\Inv X a f d s2/\Turn X.prog X.w X.K tg J fp it e/\e 0 s2.heap/\(∀b∈fp,vP X a d b)/\R J d
def PI(X:Cx)(tg iter:WG)(c:TI):Prop:=
 ∀(a:List (V_×Obj)) (s:V7) (b:St) (H:Hp) (R:It->Hp->Prop),Inv X a b H s->c b H R ->
  wpAny (model X.prog X.w) X.A (eval iter X.env) (λv s1=>wpAny (model X.prog X.w) X.A (pyIter v) (Vc X a b tg R) X.xe s1) X.xe s
def Fq (c:s.heap.get? it=some o) (e:o.cls=.type n) (hd:o.data=.fields b)
    (d:["enumerate","zip","dict_itemiterator","dict_reverseitemiterator","odict_iterator","itertools.zip_longest","itertools.pairwise"].contains n=false) (a:Q () s):wpAny M A (letOwnedTupleGo tg (.ref it) u) Q E s:=by
  unfold letOwnedTupleGo
  cases tg<;>first
    | exact V8 a
    | (cases u<;>first
        | exact V8 a
        | (refine V4 (wpAny_load c ?_)
           rw[e,hd];show wpAny M A (if (["enumerate","zip","dict_itemiterator","dict_reverseitemiterator","odict_iterator","itertools.zip_longest","itertools.pairwise"].contains n&&b[0]?==some (rawInt _))=true then _ else _) Q E s;rw[Wu (by intro h;rw[d,Bool.false_and] at h;cases h)];exact V8 a))
noncomputable def UK(K:Wb)(a:V_):It:=
 ⟨λi H=>∃xs x,uI K H a xs/\xs[i]?=some x,λi H x b=>b=H/\∀xs,uI K H a xs->xs[i]?=some x,λi H=>∃xs,uI K H a xs/\xs.length<=i⟩
def U4(K:Wb)(a:V_):It:=
 ⟨λi H=>∃xs x,tS K H a xs/\xs[i]?=some x,λi H x b=>b=H/\∀xs,tS K H a xs->xs[i]?=some x,λi H=>∃xs,tS K H a xs/\xs.length<=i⟩
noncomputable def Tx(a:Int)(n:Nat):It:=⟨λi _=>i<n,λi H x b=>b=H/\x=.int (a+i),λi _=>n<=i⟩
def IT{K:Wb}(a it:V_):Turn P w K tg (UK K a) [it] it (λi h=>h.IsListIter it a i) where
 mem:=by simp
 obj:=λi h st b g=>by
  have e:b=it:=by simpa using g
  subst e;obtain⟨o,e,c,d⟩:=st;exact⟨o,e,λv z=>by rw[d] at z;cases z⟩
 keep:=λi h h' st k=>st.at λo e=>k it (by simp) o e
 item:=by
  intro X A t B M i f s L H E I m st y;subst A t B;obtain⟨xs,x,l,r⟩:=y;obtain⟨q,n,p,hz⟩:=I.list l;obtain⟨u,S,O⟩:=n.get r;obtain⟨f0,J,T,G,F,C⟩:=m it (by simp);refine wpAny_pyNext_list_item st p.isList (x:=u) (by simpa using S) λh' j N=>?_
  have W:Inv X f L H {s with heap:=h' }:=I.turned (t':=s.toks) (λb o g e=>(N.2 b g).trans e) f0 J G F C;obtain⟨o,e,c,d⟩:=id j;exact⟨u,rfl,Fq (s:={s with heap:=h' }) e c d (by decide) ⟨x,H,W,O,⟨rfl,λY Q=>by rw[I.list_inj Q l];exact r⟩,j,λb g=>(m b g).1⟩⟩
 done:=by
  intro X A t B M i f s L H E I m st y;subst A t B;obtain⟨xs,l,r⟩:=y;obtain⟨q,n,p,hz⟩:=I.list l;obtain⟨f0,J,T,G,F,C⟩:=m it (by simp);have Z:=n.length;exact wpAny_pyNext_list_end (I.ok.hd M) st p.isList (by simp;omega) λh' U=>⟨rfl,I.turned (t':=s.toks) (λb o g e=>U b o g e) f0 J G F C⟩
 self:=λ_ _ _ _ _ st h=>wpAny_pyIter_listiter st h
def F8{K:Wb}(a it:V_):Turn P w K tg (U4 K a) [it] it (λi h=>h.IsTupleIter it a i) where
 mem:=by simp
 obj:=λi h st b j=>by
  have e:b=it:=by simpa using j
  subst e;obtain⟨o,e,c,d⟩:=st;exact⟨o,e,λv z=>by rw[d] at z;cases z⟩
 keep:=λi h h' st k=>st.at λo e=>k it (by simp) o e
 item:=by
  intro X A t B M i f s L H E I n st y;subst A t B;obtain⟨xs,x,m,r⟩:=y;obtain⟨g,q,p,hz⟩:=I.tuple m;obtain⟨u,S,O⟩:=q.get r;obtain⟨f0,J,T,G,F,C⟩:=n it (by simp);refine wpAny_pyNext_tuple_item st (show s.heap.IsTuple a g.toArray from p) (x:=u) (by simpa using S) λh' l N=>?_
  have W:Inv X f L H {s with heap:=h' }:=I.turned (t':=s.toks) (λb o j e=>(N.2 b j).trans e) f0 J G F C;obtain⟨o,e,c,d⟩:=id l;exact⟨u,rfl,Fq (s:={s with heap:=h' }) e c d (by decide) ⟨x,H,W,O,⟨rfl,λY Q=>by rw[I.tuple_inj Q m];exact r⟩,l,λb j=>(n b j).1⟩⟩
 done:=by
  intro X A t B M i f s L H E I n st y;subst A t B;obtain⟨xs,m,r⟩:=y;obtain⟨g,q,p,hz⟩:=I.tuple m;obtain⟨f0,J,T,G,F,C⟩:=n it (by simp);have Z:=q.length;exact wpAny_pyNext_tuple_end (I.ok.hd M) st (show s.heap.IsTuple a g.toArray from p) (by simp;omega) λh' U=>⟨rfl,I.turned (t':=s.toks) (λb o j e=>U b o j e) f0 J G F C⟩
 self:=λ_ _ _ _ _ st h=>wpAny_pyIter_tupleiter st h
def Gd{K:Wb}(it:V_)(f:Int)(n:Nat):Turn P w K tg (Tx f n) [it] it (λi h=>IsRangeIter h it (f+(i:Nat)*1) ((n:Int) - (i:Nat)) 1) where
 mem:=by simp
 obj:=λi h st b c=>by
  have e:b=it:=by simpa using c
  subst e
  exact⟨_,st,λv z=>by
   have B:Data.fields _=Data.cell v:=z;cases B⟩
 keep:=λi h h' st k=>k it (by simp) _ st
 item:=by
  intro X p j q m i a s A H E I g st l;subst p j q;obtain⟨f0,y,F,x,u,r⟩:=g it (by simp);have W:=Walks.range (prog:=X.prog) (w:=X.w) (I.ok.hd m) it f 1 n;refine W.item i s _ _ l st λv h' tk C d kk=>?_
  obtain⟨t,rfl⟩:=C;have J:Inv X a A H {s with heap:=h',toks:=tk}:=I.turned (λb o c e=>kk b o (by simpa using c) e) f0 y x u r;refine⟨_,rfl,Fq (s:={s with heap:=h',toks:=tk}) (n:="range_iterator") d rfl rfl (by decide) ⟨.int (f+i),H,J,⟨t,?_⟩,⟨rfl,rfl⟩,d,λb c=>(g b c).1⟩⟩;rw[Int.mul_one]
 done:=by
  intro X p j q m i a s A H E I g st l;subst p j q;obtain⟨f0,y,F,x,u,r⟩:=g it (by simp);exact wpAny_pyNext_range_end (I.ok.hd m) st (by have:n<=i:=l;omega) λh' G=>⟨rfl,I.turned (t':=s.toks) (λb o c e=>G b o c e) f0 y x u r⟩
 self:=λ_ _ _ _ _ st h=>wpAny_pyIter_rangeiter st h
end L2
namespace L2
open PySem PySem.Spec PyProof.Rows
section
variable{X:Cx}{tg:WG}
def LG{R:It->Hp->Prop}{a c:Int}{tk:Nat}(I:Inv X d f H s)(h1 : -(2 ^ 62)<=a)(k:a<2 ^ 62)(j : -(2 ^ 62)<=c)(i:c<2 ^ 62)
  (q:R (Tx a (c - a).toNat) H):wpAny (model X.prog X.w) X.A (pyIter (.ref s.heap.objs.size)) (Vc X d f tg R) E {s with heap:=s.heap.push {cls:=.type "range",data:=.fields #[.int a t,.int c u,.int 1 v]},toks:=tk}:=by
 refine wpAny_pyIter_range (IsRange.new ..) (small_one h1 k j i) ?_;have g:Inv X d f H {s with heap:=s.heap.push {cls:=.type "range",data:=.fields #[.int a t,.int c u,.int 1 v]},toks:=tk}:=I.kept λb o e=>V6 _ e
 refine⟨(s.heap.push {cls:=.type "range",data:=.fields #[.int a t,.int c u,.int 1 v]}).objs.size,[(s.heap.push {cls:=.type "range",data:=.fields #[.int a t,.int c u,.int 1 v]}).objs.size],_,_,H,rfl,
  g.kept (t':=tk) λb o e=>V6 _ e,Gd _ a (c - a).toNat,?_,λb h=>?_,q⟩
 ·have m:a+((0:Nat):Int)*1=a:=by simp
  have l:(((c - a).toNat:Nat):Int) - ((0:Nat):Int)=Builtin.Range.rangeSize a c 1:=by rw[rangeSize_one];split<;>omega
  show IsRangeIter _ _ (a+((0:Nat):Int)*1) ((((c - a).toNat:Nat):Int) - ((0:Nat):Int)) 1;rw[m,l];exact Wf _ rfl
 ·have e:b=(s.heap.push {cls:=.type "range",data:=.fields #[.int a t,.int c u,.int 1 v]}).objs.size:=by simpa using h
  subst e;exact g.fpOk (Wl _) (g.hok.fresh (Wl _))
def R1(c:TA):TI:=λa H R=>c a H λb d=>∃j:Int,b=[.int j] /\ -(2 ^ 62)<=j/\j<2 ^ 62/\R (Tx 0 j.toNat) d
def kc(m:Gl X "range")(l:X.mg "range" = none)(n:PA X [a] f)(k:starEach [a] X.env=[(false,eval a X.env)]:=by rfl):PI X tg (.Call (.Name "range" p) [a] [] pos) (R1 f):=by
 intro b s g H R I h;refine Call_ (aE I m l boot_range (PyProof.Rows.callWith_type1 (rg (n pos b s g H _ I h) λus s1 d=>?_) k rfl));obtain⟨u,v,o,r1,c⟩:=d;obtain⟨j,e,c,i,q⟩:=c;subst e;cases r1 with
 | cons r rr =>
  cases rr;obtain⟨t,rfl⟩:=r;exact call_range_1 (LG o (by omega) (by omega) c i (by simpa using q))
noncomputable def UM(f:TI)(g:TG)(h:TS):TS:=λD a H=>f a H λJ k=>∃W:Nat->Nat->St->Hp->Prop,(∃m,W 0 m a k)/\∀i m a H,W i m a H ->
 (J.stop i H/\D.nx a H)\/(J.go i H/\∃N:St->Hp->Prop,(∀ b c,N b c->∃e,e<m/\W (i+1) e b c)/\∀x c,J.yld i H x c->g x a c λd j=>h {D with nx:=N,ct:=N,bk:=D.nx} d j)
def xC(fp:List V_)(h:WK):List (V_×Obj):=fp.filterMap λb=>(h.get? b).map λo=>(b,o)
def bC(a:b∈fp)(e:h.get? b=some o):(b,o)∈xC fp h:=List.mem_filterMap.mpr ⟨b,a,by rw[e];rfl⟩
def Cd(a:p∈xC fp h):p.1∈fp/\h.get? p.1=some p.2:=by
 obtain⟨b,c,e⟩:=List.mem_filterMap.mp a;cases q:h.get? b with
 | none=>rw[q] at e;cases e
 | some o =>
  rw[q] at e;have d:(b,o)=p:=Wq e;subst d;exact⟨c,q⟩
def Inv.pinned(I:Inv X a c H s)(j:∀b∈fp,vP X a H b)(i:∀b∈fp,∃o,s.heap.get? b=some o/\∀v,o.data≠.cell v):Inv X (a++xC fp s.heap) c H s:=
 I.pins_of λp h=>(WY.mp h).elim (λz=>I.pin p (WN _ z)) λz=>by
  obtain⟨f,e⟩:=Cd z;obtain⟨f0,l,k,_⟩:=j p.1 f;obtain⟨o,g,d⟩:=i p.1 f;rw[e] at g;cases g;exact⟨e,f0,l,k,d⟩
def Inv.unpinned(I:Inv X (a++c) b H s):Inv X a b H s:=I.pins_of λp d=>I.pin p (WN _ (Xm _ d))
def jk(M:PassesOwn (model X.prog X.w) X.A X.env X.xe)(hc:X.calm=true)(hi:PI X tg iter wi)(hg:PG X tg g)(q:PSs X body tb)
  (hs:∀x,foldedSetIterable iter X.env x=pure x:=by intro _;rfl):PS X (.For tg iter body [] pos) (UM wi g tb):=by
 intro c s σ H D I h;refine wpAny_For (rg (hi c s σ H _ I h) λv s1 h1=>rg h1 λitv s2 h2=>?_) hs;obtain⟨it,fp,tn,J,H2,e,I2,T,S,f2,W,⟨m0,w0⟩,F⟩:=h2;subst e;have p:∀{B:Hp},(∀b∈fp,B b=none)->∀b∈fp,vP X c B b:=λhn b q=>⟨hn b q,(f2 b q).2⟩
 refine codeAny_forLoop_any (λn s'=>∃i l B,Inv X c l B s'/\tn i s'.heap/\(∀b∈fp,B b=none)/\W i n l B) ?_ m0 ⟨0,σ,H2,I2,S,λb q=>(f2 b q).1,w0⟩;rintro n s3 ⟨i,k,P,I3,K,O,w3⟩;rcases F i n k P w3 with ⟨stop,qn⟩ | ⟨go,N,hN,G⟩
 ·refine wpAny_passesOwn M (rg (T.done X rfl rfl rfl hc i c s3 k P X.xe I3 (p O) K stop) λr s4 j=>?_)
  obtain⟨Y,I4⟩:=j;subst Y;exact wpAny_execs_nil ⟨k,P,I4,qn⟩
 ·refine wpAny_passesOwn M (rg (T.item X rfl rfl rfl hc i c s3 k P X.xe I3 (p O) K go) λr s4 j=>?_)
  obtain⟨u,Y,h4⟩:=j;subst Y;refine wpAny_passesOwn M (rg h4 λ_ s5 j=>?_);obtain⟨x,H5,I5,r5,y5,E,Z⟩:=j;have I5':=I5.pinned (p Z) (T.obj _ _ E);refine wpAny_passesOwn M (rg (hg _ s5 k H5 x u _ I5' r5 (G x H5 y5)) λ_ s6 j=>?_);obtain⟨Q,H6,I6,q6⟩:=j;refine wpAny_passesOwn M (rg (q _ s6 Q H6 _ I6 q6) λf U C=>?_)
  have t:∀{a:St} {z:Hp},Inv X (c++xC fp s5.heap) a z U->N a z->∃m,m<n/\∃i l B,Inv X c l B U/\tn i U.heap/\(∀b∈fp,B b=none)/\W i m l B:=λ{a z} y L=>by
   obtain⟨m',hm,w7⟩:=hN a z L;refine⟨m',hm,i+1,a,z,y.unpinned,T.keep _ _ _ E λb q o e=>(y.pin (b,o) (WN _ (WN _ (bC q e)))).1,λb q=>?_,w7⟩;obtain⟨o,e,d⟩:=T.obj _ _ E b q;exact(y.pin (b,o) (WN _ (WN _ (bC q e)))).2.1
  cases f with
  | next=>obtain⟨a,z,y,L⟩:=C;exact t y L
  | cont=>obtain⟨a,z,y,L⟩:=C;exact t y L
  | brk=>obtain⟨a,z,y,C⟩:=C;exact⟨a,z,y.unpinned,C⟩
  | ret v=>obtain⟨x7,a,z,y,r7,C⟩:=C;exact⟨x7,a,z,y.unpinned,r7,C⟩
end
end L2
namespace L2
open PySem PySem.Spec PyProof.Rows
abbrev R2:=V->V->Hp->VK->Prop
def yD(X:Cx)(f:V5->V5->Sem V5)(r:R2):Prop:=
 ∀(a:List (V_×Obj)) (s:V7) (b:St) (H:Hp) (x y:V) (v u:V5) (Q:VK),Inv X a b H s->RelV x v->RelV y u->r x y H Q ->
  wpAny (model X.prog X.w) X.A (f v u) (EP X a b Q) X.xe s
def TN(X:Cx)(f:V5->Sem V5)(r:V->Hp->VK->Prop):Prop:=
 ∀(a:List (V_×Obj)) (s:V7) (b:St) (H:Hp) (x:V) (v:V5) (Q:VK),Inv X a b H s->RelV x v->r x H Q ->
  wpAny (model X.prog X.w) X.A (f v) (EP X a b Q) X.xe s
def CallR(X:Cx)(f:V5)(r:List V->Hp->VK->Prop):Prop:=
 ∀(a:List (V_×Obj)) (s:V7) (b:St) (H:Hp) (xs:List V) (us:List V5) (Q:VK),Inv X a b H s->qP xs us->r xs H Q ->
  wpAny (model X.prog X.w) X.A (call f us) (EP X a b Q) X.xe s
def Ut(X:Cx)(r:V->Hp->(Bool->Hp->Prop)->Prop):Prop:=
 ∀(a:List (V_×Obj)) (s:V7) (b:St) (H:Hp) (x:V) (v:V5) (Q:Bool->Hp->Prop),Inv X a b H s->RelV x v->r x H Q ->
  wpAny (model X.prog X.w) X.A (truthy v) (TP X a b Q) X.xe s
def TJ(r:R2)(c b:TE):TE:=λa H Q=>c a H λx e=>b a e λy d=>r x y d Q
def Vu(r:V->Hp->VK->Prop)(b:TE):TE:=λa H Q=>b a H λx c=>r x c Q
def rI(C:Int->Int->Prop)(g:Int->Int->V):R2:=λx y H Q=>∃i j,x=.int i/\y=.int j/\C i j/\Q (g i j) H
def MR(g:Int->Int->V):R2:=λx y H Q=>∃i j,x=.int i/\y=.int j/\Q (g i j) H
def rU(g:Int->V):V->Hp->VK->Prop:=λx H Q=>∃i,x=.int i/\Q (g i) H
section
variable{X:Cx}{a b c:WG}{ta tb tc:TE}{pos:Pos}
def Rq(r:PE X a ta)(q:PE X b tb){d:List (V_×Obj)}{s:V7}{g:St}{H:Hp}{R:V->V->Hp->Prop}(I:Inv X d g H s)
  (h:ta g H λx l=>tb g l λy i=>R x y i) {Q:V5->V7->Prop} {f:V5->V5->Sem V5}
  (p:∀v u s2 x y i,Inv X d g i s2->RelV x v->RelV y u->R x y i->wpAny (model X.prog X.w) X.A (f v u) Q X.xe s2) :
  wpAny (model X.prog X.w) X.A (eval a X.env) (λv k=>wpAny (model X.prog X.w) X.A (eval b X.env) (λu j=>wpAny (model X.prog X.w) X.A (f v u) Q X.xe j) X.xe k) X.xe s:=by
 refine rg (r d s g H _ I h) λv s1 e=>?_
 obtain⟨x,l,z,r1,o⟩:=e;refine rg (q d s1 g l _ z o) λu s2 e=>?_
 obtain⟨y,i,t,m,n⟩:=e;exact p v u s2 x y i t r1 m n
def oh(j:yD X (binaryOp e) r)(l:PE X a ta)(k:PE X b tb):PE X (.BinOp a e b pos) (TJ r ta tb):=by
 intro d s f H Q I h;exact wpAny_BinOp (Rq l k I h λv u s2 x y n m i g q=>j d s2 f n x y v u Q m i g q)
def qv(i:TN X (unaryOp f) r)(j:PE X a ta):PE X (.UnaryOp f a pos) (Vu r ta):=by
 intro d s e H Q I h;exact UnaryOp_ (rg (j d s e H _ I h) λv s1 ⟨x,l,k,r1,g⟩=>i d s1 e l x v Q k r1 g)
def Ug{f:V5->V5->Sem V5}{C:Int->Int->Prop}{g:Int->Int->Int}
  (d:∀(i j:Int) (t u:Tok) (s:V7) (Q:V5->V7->Prop) (E:V5->V7->Prop),C i j->Q (.int (g i j) s.toks) {s with toks:=s.toks+1}->wpAny (model X.prog X.w) X.A (f (.int i t) (.int j u)) Q E s) :
  yD X f (rI C λi j=>.int (g i j)):=by
 intro e s n H x y v u Q I l k h;obtain⟨i,j,rfl,rfl,m,q⟩:=h;obtain⟨t,rfl⟩:=l;obtain⟨t',rfl⟩:=k;exact d i j t t' s _ _ m ⟨.int (g i j),H,I.tok _,⟨_,rfl⟩,q⟩
def S4{f:V5->V5->Sem V5}{g:Int->Int->Int}
  (d:∀(i j:Int) (t u:Tok) (s:V7) (Q:V5->V7->Prop) (E:V5->V7->Prop),Q (.int (g i j) s.toks) {s with toks:=s.toks+1}->wpAny (model X.prog X.w) X.A (f (.int i t) (.int j u)) Q E s) :
  yD X f (MR λi j=>.int (g i j)):=by
 intro e s m H x y v u Q I l k h;obtain⟨i,j,rfl,rfl,q⟩:=h;obtain⟨t,rfl⟩:=l;obtain⟨t',rfl⟩:=k;exact d i j t t' s _ _ ⟨.int (g i j),H,I.tok _,⟨_,rfl⟩,q⟩
def N2{f:V5->V5->Sem V5}{g:Int->Int->Bool}
  (d:∀(i j:Int) (t u:Tok) (s:V7) (Q:V5->V7->Prop) (E:V5->V7->Prop),Q (.bool (g i j)) s->wpAny (model X.prog X.w) X.A (f (.int i t) (.int j u)) Q E s) :
  yD X f (MR λi j=>.bl (g i j)):=by
 intro e s m H x y v u Q I l k h;obtain⟨i,j,rfl,rfl,q⟩:=h;obtain⟨t,rfl⟩:=l;obtain⟨t',rfl⟩:=k;exact d i j t t' s _ _ ⟨.bl (g i j),H,I,rfl,q⟩
def T7(i j:Int):Prop:=0<j/\j<1073741824
def PM(i j:Int):Prop:=(-(2 ^ 64)<i/\i<2 ^ 64)\/(-(2 ^ 64)<j/\j<2 ^ 64)
def PM.ok{i j:Int}(h:PM i j):IntMulOk i j:=by
 rcases h with ⟨h1,d⟩ | ⟨h1,d⟩
 ·exact .of_left (intBits_le_64 h1 d)
 ·exact .of_right (intBits_le_64 h1 d)
def QF:yD X (binaryOp .Add) (MR λi j=>.int (i+j)):=S4 λ_ _ _ _ _ _ _ q=>add_int q
def QS:yD X (binaryOp .Sub) (MR λi j=>.int (i - j)):=S4 λ_ _ _ _ _ _ _ q=>sub_int q
def PZ:yD X (binaryOp .Mult) (rI PM λi j=>.int (i*j)):=Ug λ_ _ _ _ _ _ _ d q=>mul_int q d.ok
def Og:yD X (binaryOp .FloorDiv) (rI T7 λi j=>.int (i / j)):=Ug λi j _ _ _ _ _ d q=>by
 have h1:(0:Int)<j:=d.1;have e:j<1073741824:=d.2;exact floordiv_int (by omega) (by rw[Int.fdiv_eq_ediv_of_nonneg i (by omega)];exact q) (.inl (PyProof.noPylong_small (by omega)))
def Py:yD X (binaryOp .Mod) (rI (λ_ j=>0<j) λi j=>.int (i%j)):=Ug λi j _ _ _ _ _ d q=>by
 have h1:(0:Int)<j:=d;exact mod_int' (by omega) (by rw[Int.fmod_eq_emod_of_nonneg i (by omega)];exact q)
def VQ{f:V5->Sem V5}{g:Int->Int}
  (d:∀(i:Int) (t:Tok) (s:V7) (Q:V5->V7->Prop) (E:V5->V7->Prop),Q (.int (g i) s.toks) {s with toks:=s.toks+1}->wpAny (model X.prog X.w) X.A (f (.int i t)) Q E s) :
  TN X f (rU λi=>.int (g i)):=by
 intro e s k H x v Q I j h;obtain⟨i,rfl,q⟩:=h;obtain⟨t,rfl⟩:=j;exact d i t s _ _ ⟨.int (g i),H,I.tok _,⟨_,rfl⟩,q⟩
def Rn:TN X (unaryOp .USub) (rU λi=>.int (-i)):=VQ λ_ _ _ _ _ q=>neg_int q
end
noncomputable def Oz:V->V->Bool
 | .non,.non=>true | .non,.int _=>true | .int _,.non=>true | .non,.bl _=>true | .bl _,.non=>true | .non,.str _=>true | .str _,.non=>true
 | .int _,.int _=>true | .bl _,.bl _=>true | .str _,.str _=>true | .byt _,.byt _=>true
 | .int _,.str _=>true | .str _,.int _=>true | .bl _,.str _=>true | .str _,.bl _=>true
 | _,_=>false
def Vx:R2:=λx y H Q=>Oz x y=true/\Q (.bl (decide (x=y))) H
def VB:R2:=λx y H Q=>Oz x y=true/\Q (.bl (!decide (x=y))) H
def zS{i j:Int}:decide (V.int i=V.int j)=(i==j):=by
 rw[Bool.eq_iff_iff];simp
def DB:decide (V.bl i=V.bl j)=(i==j):=by
 rw[Bool.eq_iff_iff];simp
def zV:decide (V.str i=V.str j)=(i==j):=by
 rw[Bool.eq_iff_iff];simp
def Hn:decide (V.byt i=V.byt j)=(i.toList==j.toList):=by
 rw[Bool.eq_iff_iff];cases i;cases j;simp
section
variable{X:Cx}{a b c:WG}{ta tb tc:TE}{pos:Pos}
def qV(I:Inv X d f H s)(q:Q (.bl k) H)(e:k=g):EP X d f Q (.bool g) s:=by
 subst e;exact⟨.bl k,H,I,rfl,q⟩
def SU:yD X (compareOp .Eq) Vx:=by
 intro g s k H x y v u Q I f d h;obtain⟨e,q⟩:=h;cases x with
 | non =>
  cases f;cases y with
  | non=>cases d;exact PySem.EqNone.eq_none_none (qV I q (by simp))
  | bl j=>cases d;exact PySem.EqNone.eq_none_bool (qV I q (by simp))
  | int j=>obtain⟨t',rfl⟩:=d;exact PySem.EqNone.eq_none_int (qV I q (by simp))
  | str j=>obtain⟨t',rfl⟩:=d;exact PySem.EqNone.eq_none_str (qV I q (by simp))
  | _=>exact Wz (show false=true from e) We
 | bl i =>
  cases f;cases y with
  | non=>cases d;exact PySem.EqNone.eq_bool_none (qV I q (by simp))
  | bl j=>cases d;exact eq_bool (qV I q DB)
  | str j=>obtain⟨t',rfl⟩:=d;exact PySem.EqMixed.eq_bool_str (qV I q (by simp))
  | _=>exact Wz (show false=true from e) We
 | int i =>
  obtain⟨t,rfl⟩:=f;cases y with
  | non=>cases d;exact PySem.EqNone.eq_int_none (qV I q (by simp))
  | int j=>obtain⟨t',rfl⟩:=d;exact eq_int (qV I q zS)
  | str j=>obtain⟨t',rfl⟩:=d;exact PySem.EqMixed.eq_int_str (qV I q (by simp))
  | _=>exact Wz (show false=true from e) We
 | str i =>
  obtain⟨t,rfl⟩:=f;cases y with
  | non=>cases d;exact PySem.EqNone.eq_str_none (qV I q (by simp))
  | bl j=>cases d;exact PySem.EqMixed.eq_str_bool (qV I q (by simp))
  | int j=>obtain⟨t',rfl⟩:=d;exact PySem.EqMixed.eq_str_int (qV I q (by simp))
  | str j=>obtain⟨t',rfl⟩:=d;exact eq_str (qV I q zV)
  | _=>exact Wz (show false=true from e) We
 | byt i =>
  obtain⟨t,rfl⟩:=f;cases y with
  | byt j=>obtain⟨t',rfl⟩:=d;exact PySem.W.eq_bytes (qV I q Hn)
  | _=>exact Wz (show false=true from e) We
 | _=>cases y<;>exact Wz (show false=true from e) We
def SY:yD X (compareOp .NotEq) VB:=by
 intro g s k H x y v u Q I f d h;obtain⟨e,q⟩:=h;cases x with
 | non =>
  cases f;cases y with
  | non=>cases d;exact PySem.EqNone.ne_none_none (qV I q (by simp))
  | bl j=>cases d;exact PySem.EqNone.ne_none_bool (qV I q (by simp))
  | int j=>obtain⟨t',rfl⟩:=d;exact PySem.EqNone.ne_none_int (qV I q (by simp))
  | str j=>obtain⟨t',rfl⟩:=d;exact PySem.EqNone.ne_none_str (qV I q (by simp))
  | _=>exact Wz (show false=true from e) We
 | bl i =>
  cases f;cases y with
  | non=>cases d;exact PySem.EqNone.ne_bool_none (qV I q (by simp))
  | bl j=>cases d;exact ne_bool (qV I q (congrArg not DB))
  | str j=>obtain⟨t',rfl⟩:=d;exact PySem.EqMixed.ne_bool_str (qV I q (by simp))
  | _=>exact Wz (show false=true from e) We
 | int i =>
  obtain⟨t,rfl⟩:=f;cases y with
  | non=>cases d;exact PySem.EqNone.ne_int_none (qV I q (by simp))
  | int j=>obtain⟨t',rfl⟩:=d;exact ne_int (qV I q (congrArg not zS))
  | str j=>obtain⟨t',rfl⟩:=d;exact PySem.EqMixed.ne_int_str (qV I q (by simp))
  | _=>exact Wz (show false=true from e) We
 | str i =>
  obtain⟨t,rfl⟩:=f;cases y with
  | non=>cases d;exact PySem.EqNone.ne_str_none (qV I q (by simp))
  | bl j=>cases d;exact PySem.EqMixed.ne_str_bool (qV I q (by simp))
  | int j=>obtain⟨t',rfl⟩:=d;exact PySem.EqMixed.ne_str_int (qV I q (by simp))
  | str j=>obtain⟨t',rfl⟩:=d;exact ne_str (qV I q (congrArg not zV))
  | _=>exact Wz (show false=true from e) We
 | byt i =>
  obtain⟨t,rfl⟩:=f;cases y with
  | byt j=>obtain⟨t',rfl⟩:=d;exact PySem.W.ne_bytes (qV I q (congrArg not Hn))
  | _=>exact Wz (show false=true from e) We
 | _=>cases y<;>exact Wz (show false=true from e) We
def SM:yD X (compareOp .Lt) (MR λi j=>.bl (decide (i<j))):=N2 λ_ _ _ _ _ _ _ q=>lt_int q
def SZ:yD X (compareOp .LtE) (MR λi j=>.bl (decide (i<=j))):=N2 λ_ _ _ _ _ _ _ q=>le_int q
def Tg:yD X (compareOp .Gt) (MR λi j=>.bl (decide (j<i))):=N2 λ_ _ _ _ _ _ _ q=>gt_int q
def S6:yD X (compareOp .GtE) (MR λi j=>.bl (decide (j<=i))):=N2 λ_ _ _ _ _ _ _ q=>ge_int q
def P3:yD X (compareOp .Is) (λx y H Q=>y=.non/\Q (.bl (decide (x=.non))) H):=by
 intro e s g H x y v u Q I d f h;obtain⟨rfl,q⟩:=h;cases f;refine is_none_gen (qV I q ?_)
 cases x<;>first
  | (cases d;rfl)
  | (obtain⟨t,rfl⟩:=d;rfl)
def M7:yD X (compareOp .IsNot) (λx y H Q=>y=.non/\Q (.bl (!decide (x=.non))) H):=by
 intro e s g H x y v u Q I d f h;obtain⟨rfl,q⟩:=h;cases f;refine isnot_none_gen (qV I q ?_)
 cases x<;>first
  | (cases d;rfl)
  | (obtain⟨t,rfl⟩:=d;rfl)
def Kb(b:WG)(h:d≠.In:=by decide)(e:d≠.NotIn:=by decide):behindInMarks d b=false:=by
 have g:(d==CmpOp.In)=false:=by cases d<;>first | rfl | exact Wz rfl h
 have f:(d==CmpOp.NotIn)=false:=by cases d<;>first | rfl | exact Wz rfl e
 cases b<;>first | rfl | (show(_&&((d==CmpOp.In)||(d==CmpOp.NotIn))&&_)=false;rw[g,f,Bool.or_false,Bool.and_false,Bool.false_and])
def nj(j:yD X (compareOp e) r)(m:PE X a ta)(l:PE X b tb)(k:behindInMarks e b=false):PE X (.Compare a [e] [b] pos) (TJ r ta tb):=by
 intro d s f H Q I h;exact wpAny_Compare1 (Rq m l I h λv u s2 x y o n i g q=>j d s2 f o x y v u Q n i g q) k
def O1(t:TE):TT:=λd H Q=>t d H λx e=>∃k,x=.bl k/\Q k e
def nK(o:yD X (compareOp g) r)(t:PE X a ta)(q:PE X b tb)(p:behindInMarks g b=false):PT X (.Compare a [g] [b] pos) (O1 (TJ r ta tb)):=by
 intro d s f H Q I h
 refine wpAny_isTrue_Compare1 (rg (t d s f H _ I h) λv s1 ⟨x,F,B,r1,n⟩=>rg (q d s1 f F _ B n) λu s2 ⟨y,E,A,j,m⟩ =>
  rg (o d s2 f E x y v u _ A r1 j m) λc s3 ⟨z,C,w,i,k,e,l⟩=>?_) p
 subst e;cases i;exact wpAny_truthy_bool ⟨C,w,l⟩
def J_(r g:R2)(ta tb tc:TE):TE:=λd H Q=>ta d H λx j=>tb d j λy i=>r x y i λz e=>∃k,z=.bl k /\
 (if k=true then tc d e λf h=>g y f h Q else Q (.bl false) e)
def kT(M:yD X (compareOp j) r)(m:yD X (compareOp g) o)(S:PE X a ta)(P:PE X b tb)(O:PE X c tc)
  (N:lastMarks [j,g] [b,c]=false:=by with_unfolding_all rfl):PT X (.Compare a [j,g] [b,c] pos) (O1 (J_ r o ta tb tc)):=by
 intro f s i H Q I h
 refine isTrue_chain (rg (S f s i H _ I h) λv s1 ⟨x,H1,I1,r1,K⟩=>test_link (rg (P f s1 i H1 _ I1 K) λu s2 ⟨y,H2,Z,n,J⟩ =>
  rg (M f s2 i H2 x y v u _ Z r1 n J) λd s3 ⟨z,t,q,E,k,e,p⟩=>?_)) N
 subst e;cases E;refine wpAny_truthy_bool ?_;cases k with
 | false =>
  obtain⟨k',U,L⟩:=p;cases U;exact ite_ff ⟨t,q,L⟩
 | true =>
  refine ite_tt (test_last (rg (O f s3 i t _ q p) λA s4 ⟨w,H4,Y,C,G⟩=>rg (m f s4 i H4 y w u A _ Y n C G) λd' s5 l=>?_));obtain⟨z2,H5,W,B,k2,T,F⟩:=l;subst T;cases B;exact wpAny_truthy_bool ⟨H5,W,F⟩
def PP(K:Wb)(x:V)(H:Hp)(k:Bool):Prop:=
 match x with
 | .non=>k=false
 | .bl b=>k=b
 | .int i=>k=(i != 0)
 | .str y=>y.length<=sizeLine/\k=((y.length:Int) != 0)
 | .byt y=>y.size<=sizeLine/\k=((y.size:Int) != 0)
 | .ref p=>(∃xs,uI K H p xs/\k=!xs.isEmpty)\/(∃xs,tS K H p xs/\k=!xs.isEmpty)\/∃d,H p=some (.dK d)/\k=!d.isEmpty
 | _=>False
def GE(r:KV d e):(!e.isEmpty)=!d.isEmpty:=by
 cases r<;>rfl
def Be(r:qP xs d):(!d.toArray.isEmpty)=!xs.isEmpty:=by
 cases r<;>simp
def AL:(sizeLine:Nat)<2 ^ 63:=by rw[sizeLine_eq];decide
def Qt:Ut X (λx H Q=>∃k,PP X.K x H k/\Q k H):=by
 intro z s C H x v Q I j h;obtain⟨k,e,q⟩:=h;have F:=AL;have E:sizeLine=16777216:=sizeLine_eq;cases x with
 | non =>
  cases j;have d:k=false:=e;subst d;exact truthy_none ⟨H,I,q⟩
 | bl b =>
  cases j;have d:k=b:=e;subst d;exact wpAny_truthy_bool ⟨H,I,q⟩
 | int i =>
  obtain⟨t,rfl⟩:=j;have d:k=(i != 0):=e;subst d;exact PySem.P.truthy_int ⟨H,I,q⟩
 | str y =>
  obtain⟨t,rfl⟩:=j;obtain⟨A,d⟩:y.length<=sizeLine/\k=((y.length:Int) != 0):=e;subst d;exact PySem.P.truthy_str (by omega) ⟨H,I.tok _,q⟩
 | byt y =>
  obtain⟨t,rfl⟩:=j;obtain⟨A,d⟩:y.size<=sizeLine/\k=((y.size:Int) != 0):=e;subst d;exact PySem.W.truthy_bytes (by omega) ⟨H,I.tok _,q⟩
 | ref p =>
  cases j;have d:(∃xs,uI X.K H p xs/\k=!xs.isEmpty)\/(∃xs,tS X.K H p xs/\k=!xs.isEmpty)\/∃f,H p=some (.dK f)/\k=!f.isEmpty:=e;rcases d with ⟨xs,l,d⟩ | ⟨xs,l,d⟩ | ⟨f,l,d⟩
  ·subst d
   obtain⟨u,r,o,hz⟩:=I.list l;have g:=r.length;exact wpAny_truthy_list o.isList (by simp only[Wy];omega) ⟨H,I.tok _,by rw[Be r];exact q⟩
  ·subst d
   obtain⟨u,r,o,hz⟩:=I.tuple l;have g:=r.length;exact truthy_tuple o (by simp only[Wy];omega) ⟨H,I.tok _,by rw[Be r];exact q⟩
  ·subst d
   obtain⟨hz,B,n,r,m⟩:f.length<=sizeLine/\(p==sysModules)=false/\∃n,KV f n/\s.heap.DictOf (l7 X.prog X.w) p n:=I.hok p _ l;have g:f.length=n.length:=Paired.length r;exact wpAny_truthy_dict B m (by omega) ⟨H,I.tok _,by rw[GE r];exact q⟩
 | _=>exact(show False from e).elim
def k_(j:PE X a ta)(i:∀whole,isTrue a X.env whole=(do let v <- whole;standAt a.pos;holding [v] (truthy v))) :
  PT X a (λe H Q=>ta e H λx f=>∃k,PP X.K x f k/\Q k f):=by
 intro d s e H Q I h;exact isTrue_plain (rg (j d s e H _ I h) λv s1 ⟨x,m,l,r1,g⟩=>Qt d s1 e m x v Q l r1 g) (i _)
def Gn:yD X (binaryOp .Add) (λx y H Q=>∃i j,x=.str i/\y=.str j/\i.length+j.length<=sizeLine/\Q (.str (i++j)) H):=by
 intro d s g H x y v u Q I f e h;obtain⟨i,j,rfl,rfl,hz,q⟩:=h;obtain⟨t,rfl⟩:=f;obtain⟨t',rfl⟩:=e;exact add_str (λt' tk=>⟨.str (i++j),H,I.tok _,⟨_,rfl⟩,q⟩) hz
def vals1(r:qP [x] us):∃u,us=[u]/\RelV x u:=by
 cases r with
 | cons r1 r2=>cases r2;exact⟨_,rfl,r1⟩
def vals2(r:qP [x,y] us):∃u d,us=[u,d]/\RelV x u/\RelV y d:=by
 cases r with
 | cons r1 r2 =>
  cases r2 with
  | cons r3 r4=>cases r4;exact⟨_,_,rfl,r1,r3⟩
def kh(f:X.calm=true):CallR X (.builtin "max") (λxs H Q=>∃i j,xs=[.int i,.int j]/\Q (.int (if j > i then j else i)) H):=by
 intro e s g H xs us Q I r h;obtain⟨i,j,rfl,q⟩:=h;obtain⟨u,l,rfl,⟨t,rfl⟩,⟨t',rfl⟩⟩:=vals2 r;refine max_two_ints (I.ok.hd f) λh' tk k=>⟨_,H,I.kept k,?_,q⟩
 by_cases d:j > i
 ·rw[Wc d,Wc d];exact⟨_,rfl⟩
 ·rw[Wu d,Wu d];exact⟨_,rfl⟩
def IQ:CallR X (.type "int") (λxs H Q=>(∃i,xs=[.int i]/\Q (.int i) H)\/∃k,xs=[.bl k]/\Q (.int (if k then 1 else 0)) H):=by
 intro d s e H xs us Q I r h;rcases h with ⟨i,rfl,q⟩ | ⟨k,rfl,q⟩
 ·obtain⟨u,rfl,t,rfl⟩:=vals1 r
  exact call_int_int ⟨.int i,H,I,⟨_,rfl⟩,q⟩
 ·obtain⟨u,rfl,r1⟩:=vals1 r
  cases r1;exact call_int_bool ⟨.int (if k then 1 else 0),H,I.tok _,⟨_,rfl⟩,q⟩
def DX:CallR X (.type "str") (λxs H Q=>∃i,xs=[.int i]/\i.natAbs.log2<1920/\Q (.str (toString i)) H):=by
 intro d s e H xs us Q I r h;obtain⟨i,rfl,hz,q⟩:=h;obtain⟨u,rfl,t,rfl⟩:=vals1 r;exact PySem.P.str_of_int hz ⟨.str _,H,I.tok _,⟨_,rfl⟩,q⟩
end
end L2
namespace L2
open PySem PySem.Spec PyProof.Rows
section
variable{prog:Wr}{w:WC}{A:WM}{E:V5->V7->Prop}{s:V7}{K:Wb}{x dx C f:V_}{mA:Str->V3 V5}{name:Str}{v:V5}
end
def BU.some_of(r:BU (some v) o):∃u,o=some u/\RelV v u:=by
 cases o with
 | none=>exact(show False from r).elim
 | some u=>exact⟨u,rfl,r⟩
section
variable{P:Wr}{w:WC}{H H':Hp}{h h':WK}{a C dx:V_}{fs fs':List (Str×V)}
end
section
variable{X:Cx}{pins:List (V_×Obj)}{σ:St}{H:Hp}{s:V7}{a C dx:V_}{fs:List (Str×V)}{f:Str}{v:V}{A:WM}{E:V5->V7->Prop}
end
section
variable{X:Cx}{o e value:WG}{f:Str}{pos pos' tpos:Pos}{ta tv:TE}
end
section
variable{X:Cx}{pins:List (V_×Obj)}{σ:St}{H:Hp}{s:V7}{A:WM}{E:V5->V7->Prop}{Q:V5->V7->Prop}{c:V5}{b:Bool}
end
end L2
namespace L2
open PySem PySem.Spec PyProof.Rows
structure rJ (k:Nat) (A:WM):Prop where
 hd:A.handled=none
 dp:A.depth+3*k+5<recursionLimit
 un:A.units+16*k+200<cLine
 gd:A.guards=some []
def rJ.mono{j k:Nat}(r:rJ k A)(h:j<=k):rJ j A:=⟨r.hd,by have:=r.dp;omega,by have:=r.un;omega,r.gd⟩
theorem rJ.deeper{k:Nat}(r:rJ (k+1) A)(env:Env):rJ k (A.deeper env):=
 ⟨r.hd,by have:=r.dp;show A.depth+1+3*k+5<_;omega,by have:=r.un;show A.units+3+16*k+200<_;omega,r.gd⟩
theorem rJ.depth{k:Nat}(r:rJ k A):A.depth<recursionLimit:=by have:=r.dp;omega
theorem rJ.units{k:Nat}(r:rJ k A):A.units+64<cLine:=by have:=r.un;omega
def Uz:TA:=λ_ H Q=>Q [] H
def RS(b:TE)(tr:TA):TA:=λa H Q=>b a H λx d=>tr a d λxs c=>Q (x::xs) c
section
variable{X:Cx}{e:WG}{es:List WG}{te:TE}{t:TA}{pos:Pos}
def GO:PA X [] Uz:=λ_ _ _ _ H Q I h=>Calls.spliced_nil ⟨[],H,I,.nil,h⟩
def cM(k:PE X e te)(j:PA X es t)(i:starEach (e::es) X.env=(false,eval e X.env)::starEach es X.env:=by rfl):PA X (e::es) (RS te t):=by
 intro pos a s c H Q I h;rw[i];show wpAny _ _ (spliced ((false,eval e X.env)::backTo pos (starEach es X.env))) _ _ s;refine Calls.spliced_cons (rg (k a s c H _ I h) λu s1 b=>?_);obtain⟨x,o,m,r1,g⟩:=b;exact rg (j pos a s1 c o _ m g) λus s2 ⟨xs,n,l,d,f⟩=>⟨x::xs,n,l,.cons r1 d,f⟩
def T_(t:TA):TE:=λb H Q=>t b H λxs a=>xs.length<=sizeLine/\∀p,a p=none->Q (.ref p) (upd a p (.tup xs))
def Us(t:TA):TE:=λb H Q=>t b H λxs a=>xs.length<=sizeLine/\∀p,a p=none->Q (.ref p) (upd a p (.lst xs))
def mf{x1}(h:PA X es t):PE X (.Tuple es x1 pos) (T_ t):=by
 intro a s f H Q I g;refine wpAny_Tuple_spliced (rg (h pos a s f H _ I g) λus s1 ⟨xs,d,c,r,z,q⟩=>⟨by rw[<- r.length];exact z,?_⟩);have i:d s1.heap.objs.size=none:=c.hok.fresh (Wl _);refine⟨.ref s1.heap.objs.size,upd d s1.heap.objs.size (.tup xs),c.laid (t':=s1.toks) (λb u e=>V6 _ e) (Wl _) ?_,rfl,q _ i⟩;exact⟨z,us,r,⟨_,Wf _ rfl,rfl,⟨_,rfl⟩,rfl⟩⟩
def gT(h:PA X es t):PE X (.List es pos) (Us t):=by
 intro a s f H Q I g;refine wpAny_List_spliced (rg (h pos a s f H _ I g) λus s1 ⟨xs,d,c,r,z,q⟩=>⟨by rw[<- r.length];exact z,?_⟩);have i:d s1.heap.objs.size=none:=c.hok.fresh (Wl _);refine⟨.ref s1.heap.objs.size,upd d s1.heap.objs.size (.lst xs),c.laid (t':=s1.toks) (λb u e=>V6 _ e) (Wl _) ?_,rfl,q _ i⟩;exact⟨z,us,0,r,Wf _ rfl⟩
end
abbrev Sp:=List V->Hp->VK->XK->Prop
abbrev FW:=List Env->Hp->V7->XK->V5->V7->Prop
structure I8 (P:Wr) (w:WC) (K:Wb) (mg:Str->V3 V5) (base:WK) (A:WM) (outer:List Env) (s:V7) (H:Hp):Prop where
 frames:A.frames=some outer
 mod:Mod K mg base
 bs:∀b o,base.get? b=some o->s.heap.get? b=some o/\H b=none
 bsz:base.objs.size<=s.heap.objs.size
 funs:s.heap.FunFrames base outer
 frf:∀b∈HV outer,H b=none
 hok:xy P w H s.heap
 bare:AllBare s.gens
def CE(outer:List Env)(P:Wr)(w:WC)(H:Hp)(s:V7)(Q:VK)(u:V5)(a:V7):Prop:=
 ∃v b,a.os=s.os/\AllBare a.gens/\Un (HV outer) [] H b s.heap a.heap/\xy P w b a.heap/\RelV v u/\Q v b
def CR(CX:FW)(outer:List Env)(P:Wr)(w:WC)(H:Hp)(s:V7)(Q:VK)(E:XK)(r:Result)(a:V7):Prop:=
 match r with
 | .ok (.ret u)=>CE outer P w H s Q u a
 | .ok _=>False
 | .error e=>CX outer H s E e a
structure rM (P:Wr) (w:WC) (K:Wb) (mg:Str->V3 V5) (base:WK) (CX:FW) (k:Nat) (f:V_) (fd:W_) (ps:List Str) (sp:Sp):Prop where
 len:∀vs H Q E,sp vs H Q E->vs.length=ps.length
 run:∀(A:WM) (outer:List Env) (s:V7) (H:Hp) (args:Args) (us:List V5) (vs:List V) (Q:VK) (E:XK),rJ k A->I8 P w K mg base A outer s H->BindsTo s fd args (ps.zip us)->qP vs us->sp vs H Q E ->
  codeAny (model P w) A (.call (.ref f) args) (CR CX outer P w H s Q E) s
theorem rM.mono{K:Wb}{j k:Nat}(F:rM P w K mg base CX j f fd ps sp)(h:j<=k) :
  rM P w K mg base CX k f fd ps sp:=⟨F.len,λA outer s H args us a Q E b=>F.run A outer s H args us a Q E (b.mono h)⟩
def rM.imp{K:Wb}{k:Nat}(F:rM P w K mg base CX k f fd ps sp)
  (h:∀a H Q E,b a H Q E->sp a H Q E):rM P w K mg base CX k f fd ps b:=
 ⟨λa H Q E q=>F.len a H Q E (h _ _ _ _ q),λA outer s H args us a Q E e g i c d=>F.run A outer s H args us a Q E e g i c (h _ _ _ _ d)⟩
section
variable{X:Cx}{pins:List (V_×Obj)}{σ:St}{H:Hp}{s s':V7}
def Inv.env0(I:Inv X pins σ H s):I8 X.prog X.w X.K X.mg X.base X.A X.stack s H:=
 ⟨I.ok.frames,I.ok.mod,I.bs,WD I.ok.bsz I.sz,I.stack,I.stkFree,I.hok,I.bare⟩
def Inv.after(I:Inv X pins σ H s)(h:CE X.stack X.prog X.w H s Q u s'):EP X pins σ Q u s':=by
 obtain⟨v,e,os,bare,un,hok,r,q⟩:=h;obtain⟨c,g,d,t,a⟩:=s';obtain rfl:a=s.os:=os;exact⟨v,e,I.call (h':=c) (g':=g) (d':=d) (t':=t) (ch:=[]) un hok bare (λb z=>Wz z (by simp)),r,q⟩
end
def Sw(sp:Sp)(a:List V)(E:XK)(t:TA):TE:=λb H Q=>t b H λc d=>sp (c++a) d Q E
def Binds(K:Wb)(fd:W_)(ps:List Str)(ds:List V5):Prop:=
 ∀(s:V7) (us:List V5),K.In s.heap->(us++ds).length=ps.length->BindsTo s fd ⟨us,[]⟩ (ps.zip (us++ds))
def Binds.all{K:Wb}(h:∀us:List V5,us.length=ps.length->bindArgs fd ⟨us,[]⟩=pure (ps.zip us)):Binds K fd ps []:=λs us _ a=>by
 rw[WT] at a ⊢;exact .of_eq (h us a)
def F6(CX:FW)(X:Cx)(E:XK):Prop:=∀(a:List (V_×Obj)) (c:St) (H:Hp) (s:V7) (e:V5) (b:V7),Inv X a c H s->CX X.stack H s E e b->X.xe e b
section
variable{X:Cx}{CX:FW}{k:Nat}{f C:V_}{fd:W_}{ps:List Str}{sp:Sp}{dvs:List V}{ds:List V5}{E:XK}{x m:Str}{p pos apos:Pos}{e o:WG}{es:List WG}{ta:TE}{t:TA}
def Gh(F:rM X.prog X.w X.K X.mg X.base CX k f fd ps sp)(l:rJ k X.A)(q:Binds X.K fd ps ds)(hd:qP dvs ds)(j:F6 CX X E)
  (I:Inv X a d H s) (r:qP c us) (h:sp (c++dvs) H Q E):wpAny (model X.prog X.w) X.A (call (.ref f) us) (EP X a d Q) X.xe s:=by
 have g:qP (c++dvs) (us++ds):=r.append hd;have n:(us++ds).length=ps.length:=by rw[<- g.length];exact F.len _ _ _ _ h
 refine wpAny_call (codeAny_mono (F.run X.A X.stack s H ⟨us,[]⟩ (us++ds) (c++dvs) Q E l I.env0 (q s us I.kIn n) g h) λr i b=>?_);cases r with
 | error e=>exact j a d H s e i I b
 | ok fl =>
  cases fl with
  | ret u=>exact I.after b
  | next=>exact False.elim b
  | brk=>exact False.elim b
  | cont=>exact False.elim b
def eN(F:rM X.prog X.w X.K X.mg X.base CX k f fd ps sp)(j:rJ k X.A)(u:Gl X x)(l:X.mg x=some (.ref f))(n:PySem.W.keepIn X.K (.ref f)=true)(y:Binds X.K fd ps ds)(hd:qP dvs ds)(i:F6 CX X E)
  (z:PA X (e::es) t) (c:(x==("__debug__" : Str))=false:=by decide) (v:starEach (e::es) X.env=(false,eval e X.env)::starEach es X.env:=by rfl) (b:(backTo pos (starEach es X.env)).any (·.1)=false:=by rfl) :
  PE X (.Call (.Name x p) (e::es) [] pos) (Sw sp dvs E t):=by
 intro a s g H Q I h;refine Xk (gD I u l ?_ c);refine PySem.W.callWith_K (h₀:=X.base) I.ok.mod.kin n (rg (z pos a s g H _ I h) λus s1 ⟨B,G,d,r,q⟩=>⟨d.kIn,?_⟩) v b;exact Gh F j y hd i d r q
end
section
variable{X:Cx}{CX:FW}{k:Nat}{f C:V_}{fd:W_}{ps ks:List Str}{sp:Sp}{E:XK}{x m:Str}{p pos apos kpos:Pos}{e o:WG}{es:List WG}{kws:List Keyword}{te ta:TE}{t tk:TA}{nm:V3 Str}
variable{g:List V5->List V5->List V5}{gV:List V->List V->List V}
end
structure sL (N P:List Str) (sc:Scope):Prop where
 kind:sc.kind=.function
 co:sc.isCoroutine=false
 gen:sc.isGenerator=false
 nd:N.Nodup
 pre:N.take P.length=P
 par:∀x∈P,sc.names.lookup x=some .local\/sc.names.lookup x=some .cell
 nofree:∀y∈sc.names,y.2≠.free
def Vt(h1:N.Nodup:=by decide +kernel)(b:∀x∈P,sc.names.lookup x=some .local\/sc.names.lookup x=some .cell:=by decide +kernel)(a:∀y∈sc.names,y.2≠.free:=by decide +kernel)(k:sc.kind=.function:=by rfl)(c:sc.isCoroutine=false:=by rfl)(g:sc.isGenerator=false:=by rfl)(p:N.take P.length=P:=by rfl):sL N P sc:=⟨k,c,g,h1,p,b,a⟩
theorem Cp:∀{a:List (Str×V5)} {m:Str->V3 V5},(∀v,(x,v)∉a)->bindL b a m x=m x
 | [],_,_=>rfl
 | (n,v)::r,m,h=>by
  unfold bindL;rw[Cp λw c=>h w (Wt _ c)];split
  ·have:x≠n:=by rintro rfl;exact h v Ws
   simp[this]
  ·rfl
theorem Cc:∀{a:List (Str×V5)} {m:Str->V3 V5},(∀v,(x,v)∉a)->bindC b a m x=m x
 | [],_,_=>rfl
 | (n,v)::r,m,h=>by
  unfold bindC;rw[Cc λw c=>h w (Wt _ c)];split
  ·rfl
  ·have:x≠n:=by rintro rfl;exact h v Ws
   simp[this]
theorem CA:∀{P:List Str} {b:List V5} {i:Nat} {m:Str->V3 V5},P.Nodup->P[i]?=some x->b[i]?=some v->a x=some .local ->
  bindL a (P.zip b) m x=some v
 | [],_,_,_,_,h,_,_=>by simp at h
 | _::_,[],_,_,_,_,h,_=>by simp at h
 | p::P,w::b,0,m,nd,h1,h2,hk=>by
  simp at h1 h2;subst h1;subst h2;show bindL a ((p,w)::P.zip b) m p=_;unfold bindL;rw[Cp λv c=>(List.nodup_cons.mp nd).1 (List.of_mem_zip c).1,Wc hk];simp
 | p::P,w::b,i+1,m,nd,h1,h2,hk=>by
  show bindL a ((p,w)::P.zip b) m x=_;unfold bindL;exact CA (i:=i) (List.nodup_cons.mp nd).2 (by simpa using h1) (by simpa using h2) hk
theorem CW:∀{P:List Str} {b:List V5} {i:Nat} {m:Str->V3 V5},P.Nodup->P[i]?=some x->b[i]?=some v->a x≠some .local ->
  bindC a (P.zip b) m x=some v
 | [],_,_,_,_,h,_,_=>by simp at h
 | _::_,[],_,_,_,_,h,_=>by simp at h
 | p::P,w::b,0,m,nd,h1,h2,hk=>by
  simp at h1 h2;subst h1;subst h2;show bindC a ((p,w)::P.zip b) m p=_;unfold bindC;rw[Cc λv c=>(List.nodup_cons.mp nd).1 (List.of_mem_zip c).1,Wu hk];simp
 | p::P,w::b,i+1,m,nd,h1,h2,hk=>by
  show bindC a ((p,w)::P.zip b) m x=_;unfold bindC;exact CW (i:=i) (List.nodup_cons.mp nd).2 (by simpa using h1) (by simpa using h2) hk
def start(N:List Str)(a:List V):St:=a.map some++List.replicate (N.length - a.length) none
noncomputable def wY(CX:FW)(P:Wr)(w:WC)(K:Wb)(mg:Str->V3 V5)(base:WK)(N:List Str)(qual:Str)(scope:Scope)(f:V_)(b:V5)(A:WM)(outer:List Env)(s:V7)(H:Hp)(E:XK):Cx where
 prog:=P
 w:=w
 K:=K
 mg:=mg
 base:=base
 A:=A.deeper (envOfC qual scope s.heap.objs.size f b)
 N:=N
 s₀:=s
 H₀:=H
 env:=envOfC qual scope s.heap.objs.size f b
 outer:=outer
 stack:=envOfC qual scope s.heap.objs.size f b::outer
 ex:=[]
 calm:=true
 fn:=λ_=>true
 pn:=[]
 xe:=λe c=>wpAny (model P w) (A.deeper (envOfC qual scope s.heap.objs.size f b)) (leaving (envOfC qual scope s.heap.objs.size f b) e) (λ_ a=>CX outer H s E e a) (λd a=>CX outer H s E d a) c
def EN{sc:Scope}{n:Nat}{x:Str}(h:sc.names.lookup x=some .cell):∃c,(cellsFrom n sc.names []).lookup x=some c:=by
 have q:=PySem.W.cellsFrom_some sc.names n [] (.inl h);exact Option.isSome_iff_exists.mp q
def Jb{K:Wb}
  (S:sL N ps scope) (hd:A.handled=none) (g:I8 P w K mg base A outer s H) (M:j.length=ps.length) (r:qP j us)
  (x:InCallC s s.heap.objs.size (bindL (envOfC qual scope s.heap.objs.size f C).kindOf (ps.zip us) λ_=>none) (cellsFrom (s.heap.objs.size+1) scope.names []) (bindC (envOfC qual scope s.heap.objs.size f C).kindOf (ps.zip us) λ_=>none) s1) :
  Inv (wY CX P w K mg base N qual scope f C A outer s H E) [] (start N j) H s1:=by
 have J:ps.length<=N.length:=by have:=congrArg List.length S.pre;rw[Xn] at this;omega
 obtain⟨h1,tk,rfl,G⟩:=x.done;have l:∀b:V_,b∉(wY CX P w K mg base N qual scope f C A outer s H E).ex:=λb z=>Wz (show b∈([]:List V_) from z) (by simp)
 refine⟨⟨g.mod,S.kind,rfl,rfl,Wl _,λy z c h1 d=>?_,λy m=>?_,λy c _ h=>?_,λ_=>hd,Around.frames_deeper g.frames,.inr ⟨rfl,rfl⟩,λb z=>Wz z (l b),g.bs,g.bsz,λb _ _=>l b,λb z=>Wz z (l b),g.funs,g.frf⟩,
  rfl,g.bare,Un.kept G,⟨_,x.toInCall.ns,λi y v h1 d O=>?_⟩,λy c h=>⟨_,x.cell y c h⟩,g.hok.fresh (Wl _),λy c h=>?_,λp t=>Wz (show p∈([]:List (V_×Obj)) from t) (by simp),g.hok.kept G,?_⟩
 ·exact name_of_addr x.apart (Xd h1) (Xd d)
 ·have m:scope.names.lookup y=some .cell\/scope.names.lookup y=some .free:=m
  rcases m with m | m
  ·exact EN m
  ·exact Wz rfl (S.nofree _ (Xd m))
 ·exact Nat.le_of_lt (x.above y c (Xd h))
 ·have B:i<j.length:=by
   unfold start at d;by_cases B:i<j.length
   ·exact B
   ·rw[WI (by simpa using B)] at d
    rw[List.getElem?_replicate] at d;split at d<;>cases d
  have L:j[i]?=some v:=by
   unfold start at d;rw[WV (by simpa using B),Wg] at d;cases e:j[i]? with
   | none=>rw[e] at d;cases d
   | some a=>rw[e] at d;cases d;rfl
  obtain⟨u,F,I⟩:=r.get L
  have t:ps[i]?=some y:=by
   rw[<- S.pre,List.getElem?_take_of_lt (by omega)];exact h1
  have o:ps.Nodup:=by rw[<- S.pre];exact S.nd.sublist (List.take_sublist _ _)
  refine⟨u,I,?_⟩;rcases S.par y (Wi t) with k | k
  ·exact .inl ⟨k,CA o t F k⟩
  ·obtain⟨c,e⟩:=EN (n:=s.heap.objs.size+1) k
   refine .inr ⟨.inl k,c,e,?_⟩;have q:=x.cell y c e;rw[CW o t F (by show scope.names.lookup y≠_;rw[k];decide)] at q;exact q
 ·exact g.hok.fresh (Nat.le_of_lt (x.above y c (Xd h)))
 ·unfold start
  show _=N.length;rw[WB,V9,List.length_replicate];omega
def og {K:Wb} {k:Nat} {M kV p pm a ct X:V5} (lk:K.lookup f=some ⟨X,U,.func (PySem.W.fnOf name qual params body scope M kV p pm O a ct),C⟩) (L:PySem.W.codeIn K a qual=true) (S:sL N ps scope)
    (len:∀d H Q E,sp d H Q E->d.length=ps.length)
    (i:∀(A:WM) (outer:List Env) (s:V7) (H:Hp) (d:List V) (Q:VK) (E:XK),rJ k (A.deeper (envOfC qual scope s.heap.objs.size f a))->sp d H Q E ->
      ∃t,PSs (wY CX P w K mg base N qual scope f a A outer s H E) body t/\t {nx:=λ_ g=>Q .non g,rt:=Q} (start N d) H) :
    rM P w K mg base CX (k+1) f (PySem.W.fnOf name qual params body scope M kV p pm O a ct) ps sp:=by
  refine⟨len,λA outer s H args us d Q E G m hb r l=>?_⟩;have hl:=len _ _ _ _ l;have T:K.In s.heap:=m.mod.kin.keeps λb o e=>(m.bs b o e).1
  have F:s.heap.NoLimit:=m.mod.nolimit.keeps λb o e=>(m.bs b o e).1
  have h:∀y∈ps.zip us,scope.names.lookup y.1=some .local\/(scope.names.lookup y.1=some .cell/\((cellsFrom (s.heap.objs.size+1) scope.names []).lookup y.1).isSome=true):=λ⟨n,v⟩ Y=>by
    rcases S.par n (List.of_mem_zip Y).1 with q | q
    · exact .inl q
    · exact .inr ⟨q,PySem.W.cellsFrom_some _ _ _ (.inl q)⟩
  refine codeAny_call_function G.depth (T _ _ lk) rfl S.co S.gen rfl (PySem.W.codeRec_of T L) (hb _ _ _ _ ?_);refine wpAny_newFunctionEnv_cells S.kind h λenv he s1 x=>?_
  subst he;refine⟨F.keeps x.toInCall.keep,codeAny_func ?_⟩;obtain⟨t,Z,hq⟩:=i A outer s H d Q E (G.deeper _) l;have I:Inv (wY CX P w K mg base N qual scope f a A outer s H E) [] (start N d) H s1:=Jb S G.hd m hl r x;refine Xj (Z [] s1 (start N d) H _ I hq) (λfl z j=>?_) λe z j=>j
  have fin:∀{c:St} {g:Hp} {v:V} {u:V5},Inv (wY CX P w K mg base N qual scope f a A outer s H E) [] c g z->RelV v u->Q v g->CE outer P w H s Q u z:=
    λ{c g v u} J B q=>⟨v,g,J.os,J.bare,J.base,J.hok,B,q⟩
  cases fl with
  | ret u =>
    obtain⟨v,c,g,J,B,q⟩:=j;exact fin J B q
  | next =>
    obtain⟨c,g,J,q⟩:=j;exact fin (v:=V.non) (u:=Value.none) J rfl q
  | brk =>
    obtain⟨_,_,_,q⟩:=j;exact False.elim q
  | cont =>
    obtain⟨_,_,_,q⟩:=j;exact False.elim q
end L2
namespace L2
open PySem PySem.Spec PyProof.Rows
section
variable{X:Cx}{x:Str}{p pos:Pos}{e:WG}{es:List WG}{t:TA}{id T:String}{r:List V->Hp->VK->Prop}
def Vn(r:List V->Hp->VK->Prop)(t:TA):TE:=λa H Q=>t a H λb c=>r b c Q
def iy(n:CallR X (.builtin id) r)(l:Gl X x)(k:X.mg x=none)(i:bootBuiltins x=some (.builtin id))(o:PA X (e::es) t)(j:x ≠ "__name__":=by decide)(c:(x==("__debug__" : Str))=false:=by decide)
  (m:starEach (e::es) X.env=(false,eval e X.env)::starEach es X.env:=by rfl) (b:(backTo pos (starEach es X.env)).any (·.1)=false:=by rfl):PE X (.Call (.Name x p) (e::es) [] pos) (Vn r t):=by
 intro a s d H Q I h;refine Xk (aE I l k i ?_ j c);exact PyProof.Rows.callWith_builtin1 (rg (o pos a s d H _ I h) λus s1 ⟨f,u,q,r1,g⟩=>n a s1 d u f us Q q r1 g) m b
def kG(n:CallR X (.type T) r)(l:Gl X x)(k:X.mg x=none)(i:bootBuiltins x=some (.type T))(o:PA X (e::es) t)(j:x ≠ "__name__":=by decide)(c:(x==("__debug__" : Str))=false:=by decide)
  (m:starEach (e::es) X.env=(false,eval e X.env)::starEach es X.env:=by rfl) (b:(backTo pos (starEach es X.env)).any (·.1)=false:=by rfl):PE X (.Call (.Name x p) (e::es) [] pos) (Vn r t):=by
 intro a s d H Q I h;refine Xk (aE I l k i ?_ j c);exact PyProof.Rows.callWith_type1 (rg (o pos a s d H _ I h) λus s1 ⟨f,u,q,r1,g⟩=>n a s1 d u f us Q q r1 g) m b
end
end L2
namespace HT
open PySem PyProof.Rows
section
open PySem.SeqAt
open PySem.AutoSeq1 (wpAny_loadPart')
open PySem.MeetsSeq PySem.MeetsSeq2 PySem.MeetsSeq3
end
section
variable{prog:Wr}{w:WC}{A:WM}{E:V5->V7->Prop}{s:V7}
def cat_tup(r:IsTup s.heap t c.toArray)(u:IsTup s.heap b ws.toArray)(o:c ≠ [])
  (h1:ws=[]->Q (.ref t) s) (v:ws ≠ []->Q (.ref s.heap.objs.size) {s with heap:=s.heap.push {cls:=.type "tuple",data:=.seq (c++ws).toArray} })
  (hsz:c.length+ws.length<=sizeLine):wpAny (model prog w) A (binaryOp .Add (.ref t) (.ref b)) Q E s:=by
 obtain⟨⟨cls,dd,data,l⟩,j,p,n,hd⟩:=id r;obtain⟨⟨q,h,k,d⟩,a,g,m,f⟩:=id u;simp only at p hd g f;subst p hd g f;have e:c.toArray++ws.toArray=(c++ws).toArray:=by simp
 by_cases i:ws=[]
 ·exact concat_meets ⟨_,j,rfl⟩ ⟨_,a,rfl⟩ noFill_tuple_add seq_tuple_add PySem.F.slot_tuple_add PySem.F.entry_tuple_add (PySem.F.args_tuple_add_2 _ _)
   (tuple_addW1 t b c.toArray ws.toArray n m dd h l d (by simpa using o) (by simp[i])) ⟨j,a,h1 i⟩
 ·refine concat_meets ⟨_,j,rfl⟩ ⟨_,a,rfl⟩ noFill_tuple_add seq_tuple_add PySem.F.slot_tuple_add PySem.F.entry_tuple_add (PySem.F.args_tuple_add_2 _ _)
   (tuple_addW2 t b c.toArray ws.toArray n m dd h l d (by simpa using o) (by simpa using i) (by rw[Wy,Wy];exact hsz)) ⟨j,a,?_⟩
  rw[e];exact v i
noncomputable def sIx(n d:Nat):V3 Int->Nat
 | none=>d
 | some v=>if v<0 then (v+(n:Int)).toNat else min v.toNat n
def Qn(n d:Nat)(hd:d<=n)(o:V3 Int):sIx n d o<=n:=by
 cases o with
 | none=>exact hd
 | some v =>
  show(if v<0 then (v+(n:Int)).toNat else min v.toNat n)<=n;by_cases a:v<0
  ·rw[Wc a];omega
  ·rw[Wu a];exact Nat.min_le_right _ _
def HK(v:Int)(n d:Nat):(if v<0 then max (v+(n:Int)) 0 else min v (n:Int))=((sIx n d (some v):Nat):Int):=by
 show(if v<0 then max (v+(n:Int)) 0 else min v (n:Int))=(((if v<0 then (v+(n:Int)).toNat else min v.toNat n):Nat):Int);by_cases a:v<0
 ·simp only[Wc a];omega
 ·simp only[Wu a];omega
def Gb(a b:V3 Int)(n:Nat):Builtin.Slice.sliceAdjust a b 1 (n:Int)=(((sIx n 0 a:Nat):Int),((sIx n n b:Nat):Int)):=by
 have h1:¬ ((1:Int)<0):=by omega
 unfold Builtin.Slice.sliceAdjust;simp only[h1,if_false];refine Prod.ext ?_ ?_
 ·cases a with
  | none=>rfl
  | some v=>exact HK v n 0
 ·cases b with
  | none=>rfl
  | some v=>exact HK v n n
def Gp(i j:Nat):Builtin.Slice.slicePlaces (i:Int) (j:Int) 1=j - i:=by
 unfold Builtin.Slice.slicePlaces;have h1:(1:Int) > 0:=by omega
 simp only[h1,if_true,Int.ediv_one];split<;>omega
def Bj(p:IsPart v o)(h:Q o s):wpAny (model prog w) A (Builtin.Slice.slicePartIndex v) Q E s:=by
 cases p with
 | none=>exact slicePart_none h
 | int i t=>exact slicePart_int h
def sliceApplied_gen{n:Nat}(k:s.heap.IsSliceOf g f e .none)(j:IsPart f a)(i:IsPart e c)
  (h:Q (((sIx n 0 a:Nat):Int),1,sIx n n c - sIx n 0 a) s):wpAny (model prog w) A (Builtin.Slice.sliceApplied (.ref g) (pure (n:Int))) Q E s:=by
 obtain⟨os,b,l,d⟩:=id k;unfold Builtin.Slice.sliceApplied Builtin.Slice.sliceFields;refine V4 (V4 (wpAny_field b d (x:=f) rfl (V4 (wpAny_field b d (x:=e) rfl (V4 (wpAny_field b d (x:=.none) rfl (V8 ?_)))))));refine V4 (slicePart_none ?_);show wpAny _ _ (if ((1:Int)==0)=true then _ else _) _ _ s;rw[Wu (by decide)];refine V4 (Bj j (V4 (Bj i (V4 (V8 ?_)))));show wpAny _ _ (match Builtin.Slice.sliceAdjust a c 1 (n:Int) with | (a,c)=>pure (a,(1:Int),Builtin.Slice.slicePlaces a c 1)) _ _ s;rw[Gb a c n];show wpAny _ _ (pure (((sIx n 0 a:Nat):Int),(1:Int),Builtin.Slice.slicePlaces ((sIx n 0 a:Nat):Int) ((sIx n n c:Nat):Int) 1)) _ _ s;rw[Gp];exact V8 h
def L7(xs:Array V5)(i k:Nat):((List.range k).filterMap λ(m:Nat)=>xs[((i:Int)+(m:Int)*1).toNat]?).toArray=((xs.toList.drop i).take k).toArray:=by
 have e:(λ(m:Nat)=>xs[((i:Int)+(m:Int)*1).toNat]?)=λm=>xs[i+m]?:=by
  funext m;have:((i:Int)+(m:Int)*1).toNat=i+m:=by omega
  rw[this]
 rw[e];have:=pick_run xs i k;rw[List.filterMap_map] at this;have a:((λx=>xs[x]?) ∘ λx=>i+x)=λm=>xs[i+m]?:=rfl
 rw[a] at this;rw[this]
def getItem_tuple_cut(e:IsTup s.heap t a)(o:s.heap.IsSliceOf f n l .none)(r:IsPart n c)(p:IsPart l d)
  (u:¬ (sIx a.size 0 c=0/\sIx a.size a.size d=a.size))
  (h:Q (.ref s.heap.objs.size) {s with heap:=s.heap.push {cls:=.type "tuple",data:=.seq ((a.toList.drop (sIx a.size 0 c)).take (sIx a.size a.size d - sIx a.size 0 c)).toArray} })
  (hsz:a.size<=sizeLine):wpAny (model prog w) A (getItem (.ref t) (.ref f)) Q E s:=by
 have b:sizeOk (.seq ((a.toList.drop (sIx a.size 0 c)).take (sIx a.size a.size d - sIx a.size 0 c)).toArray):=by
  show((a.toList.drop (sIx a.size 0 c)).take (sIx a.size a.size d - sIx a.size 0 c)).toArray.size<=sizeLine;rw[Wy,Xn,Xq,WL];omega
 have z:sIx a.size a.size d<=a.size:=Qn _ _ (Wl _) d;obtain⟨os,g,j,v⟩:=id o;have k:s.TypeIs (.ref f) "slice":=⟨os,g,j⟩
 unfold getItem
 try with_reducible refine wpAny_holding ?_
 first | refine V4 (V8 ?_) | skip
 refine V4 (wpAny_sequenceKey e.typeIs (by decide) ?_)
 refine V4 (wpAny_callSpecial?_slot (name:=Str.ofString "__getitem__") e.typeIs PyProof.Rows.slot_tuple_getitem
  (wpAny_call_entry PyProof.Rows.slot_tuple_getitem e.typeIs entry_tuple_getitem ?_ (args_tuple_getitem _ _)))
 show wpAny _ _ (Builtin.Tuple.tupleItemsOf (.ref t) >>= _) _ _ s;refine V4 (tupleItemsOf_ e ?_);refine V4 (wpAny_typeOf k ?_);rw[Wc (by decide)];refine V4 (sliceApplied_gen o r p ?_)
 have i:¬ ((((sIx a.size 0 c:Nat):Int)==0&&(1:Int)==1&&(sIx a.size a.size d - sIx a.size 0 c)==a.size)=true):=by
  intro q;rw[Wj,Wj] at q;have y:((sIx a.size 0 c:Nat):Int)=0:=Xs q.1.1;have x:sIx a.size a.size d - sIx a.size 0 c=a.size:=Xs q.2;exact u ⟨by omega,by omega⟩
 show wpAny _ _ (if (((sIx a.size 0 c:Nat):Int)==0&&(1:Int)==1&&(sIx a.size a.size d - sIx a.size 0 c)==a.size)=true then _ else _) _ _ s;rw[Wu i,L7]
 first
  | exact V4 (m:=Builtin.Tuple.tupleExact _) (WO (V8 ⟨_,rfl,V8 h⟩) b)
  | exact V4 (m:=Builtin.Tuple.tupleExact _) (WO (V4 (V8 (V8 ⟨_,rfl,V8 h⟩))) b)
  | exact V4 (V4 (m:=Builtin.Tuple.tupleExact _) (WO (V8 (V8 ⟨_,rfl,V8 h⟩)) b))
  | exact V4 (V4 (m:=Builtin.Tuple.tupleExact _) (WO (V8 ⟨_,rfl,V8 h⟩) b))
end
end HT
namespace L2
open PySem PySem.Spec PyProof.Rows
abbrev TO:=St->Hp->(V3 Int->Hp->Prop)->Prop
def PO(X:Cx)(e:V3 WG)(t:TO):Prop:=
 ∀(a:List (V_×Obj)) (s:V7) (b:St) (H:Hp) (Q:V3 Int->Hp->Prop),Inv X a b H s->t b H Q ->
  wpAny (model X.prog X.w) X.A (evalPart e X.env) (λu d=>∃o c,Inv X a b c d/\IsPart u o/\Q o c) X.xe s
def On:TO:=λ_ H Q=>Q none H
def SL(t:TE):TO:=λa H Q=>t a H λx b=>∃i,x=.int i/\Q (some i) b
section
variable{X:Cx}{e:WG}{te:TE}{lo hi:V3 WG}{tl th:TO}{pos p2:Pos}
def OG:PO X none On:=by
 intro a s b H Q I h;rw[evalPart_none];exact V8 ⟨none,H,I,.none,h⟩
def Ni(h:PE X e te):PO X (some e) (SL te):=by
 intro a s c H Q I f;rw[evalPart_some];refine rg (h a s c H _ I f) λu s1 b=>?_
 obtain⟨x,j,g,r1,d⟩:=b;obtain⟨i,rfl,q⟩:=d;obtain⟨t,rfl⟩:=r1;exact⟨some i,j,g,.int i t,q⟩
def Pn(X:Cx)(r:V->V3 Int->V3 Int->Hp->VK->Prop):Prop:=
 ∀(a:List (V_×Obj)) (s:V7) (b:St) (H:Hp) (x:V) (v d c:V5) (lo hi:V3 Int) (f:V_) (Q:VK),Inv X a b H s->RelV x v->s.heap.IsSliceOf f d c .none->IsPart d lo->IsPart c hi->r x lo hi H Q ->
  ∃T id,typeLookup (.type T) "__getitem__" = pure (some (.builtin id))/\s.TypeIs v T/\wpAny (model X.prog X.w) X.A (getItem v (.ref f)) (EP X a b Q) X.xe s
def Pn.or(h:Pn X r)(h':Pn X i):Pn X (λx lo hi H Q=>r x lo hi H Q\/i x lo hi H Q):=by
 intro a s b H x v d c lo hi f Q I g l k j q;rcases q with q | q
 ·exact h a s b H x v d c lo hi f Q I g l k j q
 ·exact h' a s b H x v d c lo hi f Q I g l k j q
def VC(r:V->V3 Int->V3 Int->Hp->VK->Prop)(te:TE)(tl th:TO):TE:=λa H Q=>te a H λx d=>tl a d λl c=>th a c λu b=>r x l u b Q
def li(y:Pn X r)(C:PE X e te)(z:PO X lo tl)(p:PO X hi th):PE X (.Subscript e (.Slice lo hi none p2) pos) (VC r te tl th):=by
 intro a s d H Q I h;refine Subscript_ (rg (C a s d H _ I h) λv s1 c=>?_);obtain⟨x,L,J,r1,m⟩:=c;refine wpAny_Slice (rg (z a s1 d L _ J m) λg s2 ⟨l,K,G,o,k⟩=>rg (p a s2 d K _ G k) λf s3 c=>?_);obtain⟨u,i,F,n,j⟩:=c;rw[evalPart_none];refine V8 ?_;have E:Inv X a d i {s3 with heap:=s3.heap.push {cls:=.type "slice",data:=.fields #[g,f,.none]} }:=F.kept (t':=s3.toks) λb ob q=>V6 _ q
 obtain⟨T,id,hT,t,B⟩:=y a {s3 with heap:=s3.heap.push {cls:=.type "slice",data:=.fields #[g,f,.none]} } d i x v g f l u s3.heap.objs.size Q E r1 (Heap.IsSliceOf.new ..) o n j;show wpAny (model X.prog X.w) X.A (subscriptTail e (.Slice lo hi none p2) v (.ref s3.heap.objs.size)) (EP X a d Q) X.xe {s3 with heap:=s3.heap.push {cls:=.type "slice",data:=.fields #[g,f,.none]} };exact tail_any (ops:=[.ref s3.heap.objs.size,v]) t hT B (by with_unfolding_all rfl)
def zN(xs:List V)(lo hi:V3 Int):List V:=(xs.drop (HT.sIx xs.length 0 lo)).take (HT.sIx xs.length xs.length hi - HT.sIx xs.length 0 lo)
def zq(xs:List V)(lo hi:V3 Int):(zN xs lo hi).length<=xs.length:=by
 unfold zN;rw[Xn,Xq];omega
def UE(K:Wb):V->V3 Int->V3 Int->Hp->VK->Prop:=λx lo hi H Q=>∃a xs,x=.ref a/\tS K H a xs /\
 ¬ (HT.sIx xs.length 0 lo=0/\HT.sIx xs.length xs.length hi=xs.length)/\∀p,H p=none->Q (.ref p) (upd H p (.tup (zN xs lo hi)))
def P8:Pn X (UE X.K):=by
 intro f s p H x v u t lo hi w Q I i n k j h;obtain⟨a,xs,rfl,l,m,q⟩:=h;cases i;obtain⟨d,r,g,hz⟩:=I.tuple l;have c:d.toArray.size=xs.length:=by rw[Wy];exact r.length.symm
 refine⟨"tuple",_,PyProof.Rows.slot_tuple_getitem.lookup,g.typeIs,?_⟩;refine HT.getItem_tuple_cut g n k j (by rw[c];exact m) ?_ (by rw[c];exact hz);rw[c];refine⟨.ref s.heap.objs.size,_,I.laid (t':=s.toks) (o:=.tup (zN xs lo hi)) (λb ob q=>V6 _ q) (Wl _) ?_,rfl,q _ (I.hok.fresh (Wl _))⟩;exact⟨WD (zq xs lo hi) hz,_,(r.drop (HT.sIx xs.length 0 lo)).take (HT.sIx xs.length xs.length hi - HT.sIx xs.length 0 lo),uf.new _ _⟩
def S_(K:Wb):R2:=λx y H Q=>∃a b xs c,x=.ref a/\y=.ref b/\tS K H a xs/\tS K H b c/\xs ≠ []/\xs.length+c.length<=sizeLine /\
 (c=[]->Q (.ref a) H)/\(c ≠ []->∀p,H p=none->Q (.ref p) (upd H p (.tup (xs++c))))
def qP.nil_iff(r:qP xs us):us=[]↔xs=[]:=by
 cases r with
 | nil=>simp
 | cons _ _=>simp
def Ng:yD X (binaryOp .Add) (S_ X.K):=by
 intro d s A H x y v u Q I j i h;obtain⟨a,b,xs,g,rfl,rfl,t,r,p,hz,l,k⟩:=h;cases j;cases i;obtain⟨n,r1,m,_⟩:=I.tuple t;obtain⟨f,c,p2,_⟩:=I.tuple r;refine HT.cat_tup m p2 (λz=>p (r1.nil_iff.mp z)) (λz=>⟨.ref a,H,I,rfl,l (c.nil_iff.mp z)⟩) (λz=>?_) (by rw[<- r1.length,<- c.length];exact hz);refine⟨.ref s.heap.objs.size,_,I.laid (t':=s.toks) (o:=.tup (xs++g)) (λb ob q=>V6 _ q) (Wl _) ?_,rfl,k (λw=>z (c.nil_iff.mpr w)) _ (I.hok.fresh (Wl _))⟩;exact⟨by rw[WB];exact hz,_,r1.append c,uf.new _ _⟩
end
end L2
namespace L2
open PySem PySem.Spec PyProof.Rows
noncomputable def R3(n:Nat)(i:Int):V3 Nat:=if 0<=i then (if i<n then some i.toNat else none) else if -(n:Int)<=i then some (i+n).toNat else none
def PD{a:Type}(xs:List a)(i:Int):V3 a:=(R3 xs.length i).bind λj=>xs[j]?
def M_{n:Nat}{i:Int}{j:Nat}(h:R3 n i=some j):seqIndex? i n=some j/\j<n /\ -(n:Int)<=i/\i<n:=by
 unfold R3 at h;by_cases h0:0<=i
 ·rw[Wc h0] at h
  by_cases h1:i<n
  ·rw[Wc h1] at h
   have e:i.toNat=j:=Wq h;exact⟨by rw[seqIndex_of h0 h1,e],by omega,by omega,h1⟩
  ·rw[Wu h1] at h;cases h
 ·rw[Wu h0] at h
  by_cases h1 : -(n:Int)<=i
  ·rw[Wc h1] at h
   have e:(i+n).toNat=j:=Wq h;exact⟨by rw[seqIndex_neg (by omega) h1,e],by omega,h1,by omega⟩
  ·rw[Wu h1] at h;cases h
def DJ{i:Int}(h:PD xs i=some v):∃j,seqIndex? i xs.length=some j/\xs[j]?=some v/\j<xs.length /\ -(xs.length:Int)<=i/\i<xs.length:=by
 unfold PD at h;cases e:R3 xs.length i with
 | none=>rw[e] at h;cases h
 | some j =>
  rw[e] at h;obtain⟨h1,d,c,b⟩:=M_ e;exact⟨j,h1,h,d,c,b⟩
def Dp(b:WG):Prop:=∀o i,subscripted b false o i=operate [o,i] (getItem o i)
def IxR(X:Cx)(r:R2):Prop:=
 ∀(c a:WG) (b:List (V_×Obj)) (s:V7) (d:St) (H:Hp) (x y:V) (v u:V5) (Q:VK),Inv X b d H s->RelV x v->RelV y u->r x y H Q ->
  subscripted a false v u=operate [v,u] (getItem v u)->wpAny (model X.prog X.w) X.A (subscriptTail c a v u) (EP X b d Q) X.xe s
def RH(X:Cx)(id:String)(r:V->List V->Hp->VK->Prop):Prop:=
 ∀(a:List (V_×Obj)) (s:V7) (b:St) (H:Hp) (x:V) (xs:List V) (v:V5) (us:List V5) (Q:VK),Inv X a b H s->RelV x v->qP xs us->r x xs H Q ->
  wpAny (model X.prog X.w) X.A (call (.builtin id) (v::us)) (EP X a b Q) X.xe s
section
variable{X:Cx}{a b:WG}{ta tb:TE}{pos:Pos}
def IxR.or(h:IxR X r)(h':IxR X j):IxR X (λx y H Q=>r x y H Q\/j x y H Q):=by
 intro c d e s f H x y v u Q I i g q k;rcases q with q | q
 ·exact h c d e s f H x y v u Q I i g q k
 ·exact h' c d e s f H x y v u Q I i g q k
def n_(i:IxR X r)(k:PE X a ta)(j:PE X b tb)(g:Dp b):PE X (.Subscript a b pos) (TJ r ta tb):=by
 intro c s d H Q I h;exact Subscript_ (Rq k j I h λv u s2 x y m l f e q=>i a b c s2 d m x y v u Q l f e q (g _ _))
def UL(K:Wb):R2:=λx y H Q=>∃p xs i v,x=.ref p/\y=.int i/\uI K H p xs/\PD xs i=some v/\Q v H
def Uc(K:Wb):R2:=λx y H Q=>∃p xs i v,x=.ref p/\y=.int i/\tS K H p xs/\PD xs i=some v/\Q v H
def UT:R2:=λx y H Q=>∃z i c,x=.str z/\y=.int i/\z.length<=sizeLine/\PD z.cps.toList i=some c/\Q (.str ⟨#[c]⟩) H
def Ou:IxR X (UL X.K):=by
 intro d e c s m H x y v u Q I C B h n;obtain⟨p,xs,i,z,rfl,rfl,E,G,q⟩:=h;cases C;obtain⟨t,rfl⟩:=B;obtain⟨k,r,g,hz⟩:=I.list E;obtain⟨j,h1,M,O,L,J⟩:=DJ G;obtain⟨w,o,f⟩:=r.get M;have F:=r.length;have N:=AL;have fin:EP X c m Q w s:=⟨z,H,I,f,q⟩
 by_cases h0:0<=i
 ·have l:i.toNat=j:=by
   rw[seqIndex_of h0 J] at h1;exact Wq h1
  exact item_listR g.isList h0 (by omega) (by rw[l];simpa using o) fin n
 ·have l:(i+(k.toArray.size:Int)).toNat=j:=by
   rw[seqIndex_neg (by omega) L] at h1;rw[Wy,<- F];exact Wq h1
  exact subscriptTail_builtinR (x:=w) g.isList.typeIs slot_list_getitem.lookup
   (wpAny_getItem_list_neg (Q:=λr A=>r=w/\EP X c m Q r A) g.isList (by omega) (by rw[Wy]<;>omega) (by omega) (by rw[l];simpa using o) ⟨rfl,fin⟩) n
def Q3:IxR X (Uc X.K):=by
 intro d e c s g H x y v u Q I n m h A;obtain⟨p,xs,i,z,rfl,rfl,B,E,q⟩:=h;cases n;obtain⟨t,rfl⟩:=m;obtain⟨o,r,k,hz⟩:=I.tuple B;obtain⟨j,h1,F,N,M,L⟩:=DJ E;obtain⟨w,G,f⟩:=r.get F;have C:=r.length;have J:=AL;have fin:EP X c g Q w s:=⟨z,H,I,f,q⟩
 exact subscriptTail_builtinR (x:=w) k.typeIs slot_tuple_getitem.lookup
  (getItem_tuple (j:=j) (Q:=λr l=>r=w/\EP X c g Q r l) k (by omega) (by omega) (by rw[Wy,<- C];exact h1) (by simpa using G) ⟨rfl,fin⟩) A
def Qr:IxR X UT:=by
 intro d e f s B H x y v u Q I k g h l;obtain⟨z,i,c,rfl,rfl,hz,n,q⟩:=h;obtain⟨t,rfl⟩:=k;obtain⟨t',rfl⟩:=g;obtain⟨j,h1,r,E,p,o⟩:=DJ n;have m:z.cps.toList.length=z.length:=by simp[Str.length]
 rw[m] at h1 p o;have C:=AL
 exact tail_any (typeIs_str s z t) slot_str_getitem.lookup (getItem_str (c:=c) (by
  have A:decide (i < -(2 ^ 63:Int))=false:=Wx (by omega);have w:decide (i ≥ 2 ^ 63)=false:=Wx (by omega);rw[A,w,Bool.or_false]) (by rw[h1];simpa using r) ⟨.str ⟨#[c]⟩,H,I.tok _,⟨_,rfl⟩,q⟩) l
def Dy(c d:V3 Int)(n:Nat):(sliceBounds c d none n).1=((HT.sIx n 0 c:Nat):Int)/\(sliceBounds c d none n).2.1=((HT.sIx n n d:Nat):Int)/\(sliceBounds c d none n).2.2=1:=by
 refine⟨?_,?_,rfl⟩
 ·cases c with
  | none=>simp[sliceBounds,HT.sIx]
  | some i =>
   simp only[sliceBounds,HT.sIx,Option.getD_none,show(1:Int) > 0 by decide,if_true];by_cases h:i<0
   ·simp only[h,if_true]<;>omega
   ·simp only[h,if_false]<;>omega
 ·cases d with
  | none=>simp[sliceBounds,HT.sIx]
  | some i =>
   simp only[sliceBounds,HT.sIx,Option.getD_none,show(1:Int) > 0 by decide,if_true];by_cases h:i<0
   ·simp only[h,if_true]<;>omega
   ·simp only[h,if_false]<;>omega
def BS(c:List V5)(d e:V3 Int):slicePick c.toArray d e none=((c.drop (HT.sIx c.length 0 d)).take (HT.sIx c.length c.length e - HT.sIx c.length 0 d)).toArray:=by
 obtain⟨h1,g,f⟩:=Dy d e c.toArray.size;unfold slicePick;rw[h1,g,f];simp only[sliceRange_one,pick_run,Wy]<;>rfl
def Um(K:Wb):V->V3 Int->V3 Int->Hp->VK->Prop:=λx c d H Q=>∃a xs,x=.ref a/\uI K H a xs/\∀p,H p=none->Q (.ref p) (upd H p (.lst (zN xs c d)))
def Nr:Pn X (Um X.K):=by
 intro f s p H x v u t d e w Q I i n k j h;obtain⟨a,xs,rfl,m,q⟩:=h;cases i;obtain⟨l,r,g,hz⟩:=I.list m;have c:=r.length;refine⟨"list",_,slot_list_getitem.lookup,g.isList.typeIs,?_⟩;refine wpAny_getItem_list_slice g.isList n k j .none (by simp) ?_ (by rw[Wy]<;>omega);rw[BS,<- c];refine⟨.ref s.heap.objs.size,_,I.laid (t':=s.toks) (o:=.lst (zN xs d e)) (λb ob q=>V6 _ q) (Wl _) ?_,rfl,q _ (I.hok.fresh (Wl _))⟩;exact⟨WD (zq xs d e) hz,_,0,(r.drop (HT.sIx xs.length 0 d)).take (HT.sIx xs.length xs.length e - HT.sIx xs.length 0 d),Wf _ rfl⟩
def wZ:V->Bool
 | .non=>true
 | .bl _=>true
 | .int _=>true
 | .str _=>true
 | _=>false
noncomputable def N4:V->V->Bool
 | .non,.non=>true
 | .bl a,.bl b=>a==b
 | .bl a,.int b=>(if a then 1 else 0)==b
 | .int a,.bl b=>a==(if b then 1 else 0)
 | .int a,.int b=>a==b
 | .str a,.str b=>a==b
 | _,_=>false
def Qh(d:RelV y u)(c:RelV x v)(f:wZ y=true)(e:wZ x=true):SeqAt.EqAt A s u v (N4 y x):=by
 cases y with
 | non =>
  cases d;cases x with
  | non=>cases c;exact SeqAt.EqAt.same _
  | bl b=>cases c;exact SeqAt.EqAt.none_bool b
  | int b=>obtain⟨t,rfl⟩:=c;exact SeqAt.EqAt.none_int b t
  | str b=>obtain⟨t,rfl⟩:=c;exact SeqAt.EqAt.none_str b t
  | _=>exact Wz (show false=true from e) We
 | bl a =>
  cases d;cases x with
  | non=>cases c;exact SeqAt.EqAt.bool_none a
  | bl b=>cases c;exact SeqAt.EqAt.bool_bool a b
  | int b=>obtain⟨t,rfl⟩:=c;exact SeqAt.EqAt.bool_int a b t
  | str b=>obtain⟨t,rfl⟩:=c;exact SeqAt.EqAt.bool_str a b t
  | _=>exact Wz (show false=true from e) We
 | int a =>
  obtain⟨t',rfl⟩:=d;cases x with
  | non=>cases c;exact SeqAt.EqAt.int_none a t'
  | bl b=>cases c;exact SeqAt.EqAt.int_bool a t' b
  | int b=>obtain⟨t,rfl⟩:=c;exact SeqAt.EqAt.int_int a t' b t
  | str b=>obtain⟨t,rfl⟩:=c;exact SeqAt.EqAt.int_str a t' b t
  | _=>exact Wz (show false=true from e) We
 | str a =>
  obtain⟨t',rfl⟩:=d;cases x with
  | non=>cases c;exact SeqAt.EqAt.str_none a t'
  | bl b=>cases c;exact SeqAt.EqAt.str_bool a t' b
  | int b=>obtain⟨t,rfl⟩:=c;exact SeqAt.EqAt.str_int a t' b t
  | str b=>obtain⟨t,rfl⟩:=c;exact SeqAt.EqAt.str_str a t' b t
  | _=>exact Wz (show false=true from e) We
 | _=>exact Wz (show false=true from f) We
def Of(x:V)(u:V5):Bool:=match u with
 | .none=>N4 .non x
 | .bool b=>N4 (.bl b) x
 | .int i _=>N4 (.int i) x
 | .str z _=>N4 (.str z) x
 | _=>false
def L_(r:RelV y u)(f:wZ y=true):Of x u=N4 y x:=by
 cases y with
 | non=>cases r;rfl
 | bl b=>cases r;rfl
 | int i=>obtain⟨t,rfl⟩:=r;rfl
 | str z=>obtain⟨t,rfl⟩:=r;rfl
 | _=>exact Wz (show false=true from f) We
theorem Dh:∀{xs:List V} {us:List V5},qP xs us->xs.all wZ=true->us.any (Of x)=xs.any λy=>N4 y x
 | _,_,.nil,_=>rfl
 | y::xs,u::us,.cons r t,f=>by
  rw[W9,Wj] at f;rw[List.any_cons,List.any_cons,L_ r f.1,Dh t f.2]
theorem fB(d:RelV x v)(e:wZ x=true):∀{xs:List V} {us:List V5},qP xs us->xs.all wZ=true->∀u∈us,SeqAt.EqAt A s u v (Of x u)
 | _,_,.nil,_=>λu c=>by cases c
 | y::xs,u::us,.cons r t,f=>λg c=>by
  rw[W9,Wj] at f;rcases Wo.mp c with rfl | c
  ·rw[L_ r f.1];exact Qh r d f.1 e
  ·exact fB d e t f.2 g c
def Tt(x:V)(xs:List V):Bool:=xs.any λy=>N4 y x
def VM(K:Wb)(c:Bool):R2:=λx y H Q=>∃p xs,y=.ref p/\(uI K H p xs\/tS K H p xs)/\wZ x=true/\xs.all wZ=true/\Q (.bl (if c then !Tt x xs else Tt x xs)) H
def Js:yD X (compareOp .In) (VM X.K false):=by
 intro j s m H x y v u Q I i l h;obtain⟨p,xs,rfl,d,k,e,q⟩:=h;cases l;rcases d with d | d
 ·obtain⟨c,r,f,hz⟩:=I.list d
  refine SeqAt.in_listAt (Of x) f.isList (λw g=>fB i k r e w (by simpa using g)) ⟨.bl _,H,I,rfl,?_⟩;rw[show c.toArray.any (Of x)=c.any (Of x) by simp,Dh r e];exact q
 ·obtain⟨c,r,f,hz⟩:=I.tuple d
  refine SeqAt.in_tupleAt (Of x) f (λw g=>fB i k r e w (by simpa using g)) ⟨.bl _,H,I,rfl,?_⟩;rw[show c.toArray.any (Of x)=c.any (Of x) by simp,Dh r e];exact q
def DN:CallR X (.builtin "len") (λxs H Q=>∃p d,xs=[.ref p]/\(uI X.K H p d\/tS X.K H p d)/\Q (.int d.length) H):=by
 intro j s l H xs us Q I r h;obtain⟨p,d,rfl,e,q⟩:=h;obtain⟨u,rfl,k⟩:=vals1 r;cases k;have m:=AL;rcases e with e | e
 ·obtain⟨i,f,g,hz⟩:=I.list e
  have c:=f.length;exact Calls.call_len_list g.isList (by simp only[Wy]<;>omega) ⟨.int d.length,H,I.tok _,⟨s.toks+1,by rw[Wy,c]⟩,q⟩
 ·obtain⟨i,f,g,hz⟩:=I.tuple e
  have c:=f.length;exact len_tuple g (by simp only[Wy]<;>omega) ⟨.int d.length,H,I.tok _,⟨s.toks+1,by rw[Wy,c]⟩,q⟩
def BV:CallR X (.type "tuple") (λxs H Q=>∃p f,xs=[.ref p]/\((uI X.K H p f/\∀l,H l=none->Q (.ref l) (upd H l (.tup f)))\/(tS X.K H p f/\Q (.ref p) H))):=by
 intro c s k H xs us Q I r h;obtain⟨p,f,rfl,h⟩:=h;obtain⟨u,rfl,t⟩:=vals1 r;cases t;rcases h with ⟨j,q⟩ | ⟨j,q⟩
 ·obtain⟨d,g,i,hz⟩:=I.list j
  have m:=g.length;refine call_tuple_list i.isList (λh' kp=>?_) (by simp only[Wy]<;>omega);have n:Inv X c k H {s with heap:=h' }:=I.kept (t':=s.toks) kp
  have v:Inv X c k (upd H h'.objs.size (.tup f)) {s with heap:=h'.push {cls:=.type "tuple",data:=.seq d.toArray} }:=
   n.laid (t':=s.toks) (λb o e=>V6 _ e) (Wl _) (show rO X.prog X.w _ _ _ (.tup f) from⟨hz,d,g,uf.new _ _⟩)
  exact⟨.ref h'.objs.size,_,v,rfl,q _ (n.hok.fresh (Wl _))⟩
 ·obtain⟨d,g,i,hz⟩:=I.tuple j
  exact call_tuple_same i ⟨.ref p,H,I,rfl,q⟩
def T5(K:Wb)(T:String)(x:V)(H:Hp):Prop:=match x with
 | .str _=>T = "str"
 | .int _=>T = "int"
 | .ref p=>(T = "list" /\ ∃xs,uI K H p xs)\/(T = "tuple" /\ ∃o,K.lookup p=some o/\o.cls=.type "tuple" /\ o.dict=none) \/
   (T = "dict" /\ ((∃c,H p=some (.dK c))\/∃c,H p=some (.dT c)))\/(T = "set" /\ ∃S n,H p=some (.set S n))
 | _=>False
def F7(I:Inv X f l H s)(r:RelV x v)(g:T5 X.K T x H) :
  s.TypeIs v T/\∀a,v=.ref a->∃ob,s.heap.get? a=some ob/\ob.dict=none:=by
 cases x with
 | str z =>
  obtain⟨t,rfl⟩:=r;cases (show T = "str" from g);exact⟨typeIs_str s z t,λ_ e=>nomatch e⟩
 | int i =>
  obtain⟨t,rfl⟩:=r;cases (show T = "int" from g);exact⟨typeIs_int s i t,λ_ e=>nomatch e⟩
 | ref p =>
  cases r;rcases g with ⟨rfl,xs,q⟩ | ⟨rfl,o,d,u,hd⟩ | ⟨rfl,d⟩ | ⟨rfl,S,n,d⟩
  ·obtain⟨m,_,k,_⟩:=I.list q
   refine⟨k.isList.typeIs,λa e=>?_⟩;cases e;obtain⟨o,n,e,c,hd,_⟩:=k;exact⟨o,e,hd⟩
  ·refine⟨⟨o,I.kIn p o d,u⟩,λa e=>?_⟩
   cases e;exact⟨o,I.kIn _ o d,hd⟩
  ·have z:∃o,s.heap.get? p=some o/\o.ExactDict:=by
    rcases d with ⟨h,d⟩ | ⟨h,d⟩
    ·obtain⟨_,_,_,_,o,_,_,e,ex,_⟩:=I.hok p _ d
     exact⟨o,e,ex⟩
    ·obtain⟨_,_,_,_,o,_,_,e,ex,_⟩:=I.hok p _ d
     exact⟨o,e,ex⟩
   obtain⟨o,e,ex⟩:=z;refine⟨⟨o,e,ex.1⟩,λa j=>?_⟩;cases j;exact⟨o,e,ex.2.1⟩
  ·obtain⟨o,_,_,_,e,ex,_⟩:=I.hok p _ d
   refine⟨⟨o,e,ex.1⟩,λa j=>?_⟩;cases j;exact⟨o,e,ex.2.1⟩
 | _=>exact False.elim g
def UV(K:Wb)(T:String)(r:V->List V->Hp->VK->Prop)(e:TE):TE:=λd H Q=>e d H λx c=>T5 K T x c/\r x [] c Q
def V2(K:Wb)(T:String)(r:V->List V->Hp->VK->Prop)(e:TE)(t:TA):TE:=λc H Q=>e c H λx d=>T5 K T x d/\t c d λxs f=>r x xs f Q
variable{o e:WG}{es:List WG}{to:TE}{t:TA}{name:Str}{apos cpos:Pos}{T id:String}{r:V->List V->Hp->VK->Prop}
def oN(n:PlainAttrs T)(slot:Slot T name id)(i:typeOf (.builtin id)=pure (.type "method_descriptor"))(q:RH X id r)(p:PE X o to)
  (f:attributeBase o name X.env (eval o X.env)=eval o X.env:=by rfl) (d:(apos.endLine==cpos.line)=true:=by rfl):PE X (.Call (.Attribute o name apos) [] [] cpos) (UV X.K T r to):=by
 intro c s j H Q I h;refine wpAny_Call_method0_late f d (rg (p c s j H _ I h) λv s1 g=>?_);obtain⟨x,w,k,r1,l,m⟩:=g;obtain⟨h1,u⟩:=F7 k r1 l;exact⟨T,id,n,slot,i,h1,u,Calls.callWith_builtin rfl (PySem.evalArgs_none (q c s1 j w x [] v [] Q k r1 .nil m))⟩
def jC(A:PlainAttrs T) (slot:Slot T name id) (l:typeOf (.builtin id)=pure (.type "method_descriptor")) (E:RH X id r) (C:PE X o to) (F:PA X (e::es) t)
    (g:attributeBase o name X.env (eval o X.env)=eval o X.env:=by rfl)
    (i:((backTo cpos (starEach (e::es) X.env)).all (λx=>!x.1)&&(backToKw cpos (keywordEach [] X.env)).all (λx=>x.1.isSome)
      && decide ((e::es).length+([]:List Keyword).length+(if ([]:List Keyword).isEmpty then 0 else 1)<30))=true:=by rfl)
    (f:(apos.endLine==cpos.line)=true:=by rfl) (B:starEach (e::es) X.env=(false,eval e X.env)::starEach es X.env:=by rfl) (d:(backTo cpos (starEach es X.env)).any (·.1)=false:=by rfl) :
    PE X (.Call (.Attribute o name apos) (e::es) [] cpos) (V2 X.K T r to t):=by
  intro c s j H Q I h;refine wpAny_Call_method_late g i f rfl (rg (C c s j H _ I h) λv s1 k=>?_);obtain⟨x,M,p,r1,u,z⟩:=k;obtain⟨h1,G⟩:=F7 p r1 u;refine⟨T,id,A,slot,l,h1,G,?_⟩;have n:=F cpos c s1 j M _ p z;rw[B] at n ⊢;refine Calls.callWith_builtin (by show(false||(backTo cpos (starEach es X.env)).any (·.1))=false;rw[d]<;>rfl) (Calls.evalArgs_plain ?_);exact rg n λus s2 ⟨q,L,J,w,y⟩=>E c s2 j L x q v us Q J r1 w y
/- xs.append(e),list.index on a module's tuple .. are RH facts of 06m -/
end
end L2
namespace L2
open PySem PySem.Spec PyProof.Rows
def UU(X:Cx)(id:String)(r:V->List V->Hp->VK->Prop):Prop:=
 ∀(a:List (V_×Obj)) (s:V7) (b:St) (H:Hp) (x:V) (xs:List V) (v:V5) (us:List V5) (Q:VK),Inv X a b H s->RelV x v->qP xs us->r x xs H Q ->
  wpAny (model X.prog X.w) X.A (call (.builtin id) (v::us)) (EP X a b Q) X.xe s
def qP.one:∀{x:V} {us:List V5},qP [x] us->∃u,us=[u]/\RelV x u
 | _,_,h=>by cases h with | cons r t=>cases t;exact⟨_,rfl,r⟩
def qP.two:∀{x y:V} {us:List V5},qP [x,y] us->∃u v,us=[u,v]/\RelV x u/\RelV y v
 | _,_,_,h=>by cases h with | cons r t=>cases t with | cons q t=>cases t;exact⟨_,_,rfl,r,q⟩
theorem qP.rep(h:qP xs us):∀k:Nat,qP (List.replicate k xs).flatten (List.replicate k us).flatten
 | 0=>.nil
 | k+1=>by
  rw[List.replicate_succ,List.replicate_succ,List.flatten_cons,List.flatten_cons];exact qP.append h (qP.rep h k)
theorem foldl_rep(a:List V5):∀(k:Nat) (b:List V5),
  List.foldl (λd c=>d++c) b.toArray (List.replicate k a.toArray)=(b++(List.replicate k a).flatten).toArray
 | 0,b=>by simp
 | k+1,b=>by
  have e:b.toArray++a.toArray=(b++a).toArray:=by simp
  have f:(b++a)++(List.replicate k a).flatten=b++(List.replicate (k+1) a).flatten:=by
   rw[List.replicate_succ,List.flatten_cons,List.append_assoc]
  rw[<- f,<- foldl_rep a k (b++a),<- e,List.replicate_succ,List.foldl_cons]
section
variable{X:Cx}{pins:List (V_×Obj)}{σ:St}{H:Hp}{s:V7}{l b:V_}{xs ys zs:List V}
def Inv.lset{a its':List V5}{n:Nat}{f:Array V5->Array V5}{t':Nat}(I:Inv X pins σ H s)(i:H l=some (.lst xs))
  (e:s.heap.get? l=some {cls:=.type "list",data:=.seq a.toArray n}) (g:f a.toArray=its'.toArray) (c:qP ys its') (hz:ys.length<=sizeLine) :
  Inv X pins σ (upd H l (.lst ys)) {s with heap:=s.heap.update l (Obj.mapSeq f),toks:=t' }:=by
 have q:=PySem.IsL.update e f;rw[g] at q;refine I.write (x:=l) (e:=l) (by rw[i];exact trivial) (.inl rfl) (λj u h d=>(WF s.heap (Obj.mapSeq f) (Ne.symm h)).trans d) ⟨_,q⟩ ?_;exact⟨hz,its',_,c,q⟩
def Inv.lnew{t':Nat}(I:Inv X pins σ H s)(c:qP ys a)(hz:ys.length<=sizeLine) :
  Inv X pins σ (upd H s.heap.objs.size (.lst ys)) {s with heap:=s.heap.push {cls:=.type "list",data:=.seq a.toArray},toks:=t' }:=
 I.laid (λ_ _ q=>V6 _ q) (Wl _) ⟨hz,a,0,c,Wf _ rfl⟩
theorem Inv.fresh(I:Inv X pins σ H s):H s.heap.objs.size=none:=I.hok.fresh (Wl _)
def Inv.lstM(I:Inv X pins σ H s)(c:H l=some (.lst xs)):xs.length<=sizeLine/\∃(a:List V5) (n:Nat),qP xs a/\xs.length=a.length/\s.heap.get? l=some {cls:=.type "list",data:=.seq a.toArray n}:=by
 obtain⟨z,a,n,r,e⟩:=I.hok l _ c;exact⟨z,a,n,r,r.length,e⟩
def Kz{n:Nat}(h:n<=sizeLine):Builtin.List.listTooLong n=false:=by
 unfold Builtin.List.listTooLong;exact Wx (by omega)
end
section
variable{X:Cx}
def Oa:V->List V->Hp->VK->Prop:=λx a H Q=>∃l xs y,x=.ref l/\a=[y]/\H l=some (.lst xs)/\xs.length<sizeLine/\Q .non (upd H l (.lst (xs++[y])))
def fX:UU X "list.append" Oa:=by
 intro b s i H x j v us Q I d f h;obtain⟨l,xs,y,rfl,rfl,c,hz,q⟩:=h;cases d;obtain⟨u,rfl,g⟩:=f.one;obtain⟨z,a,n,r,k,e⟩:=I.lstM c;refine call_meets F.slot_list_append ⟨_,e,rfl⟩ F.entry_list_append (F.args_list_append_2 _ _) (PySem.list_append l a.toArray n u (by rw[Wy];omega)) ⟨e,?_⟩;refine⟨.non,_,I.lset (its':=a++[u]) c e (by simp) (r.append (.cons g .nil)) ?_,rfl,q⟩;rw[WB,List.length_singleton];omega
def MS:V->List V->Hp->VK->Prop:=λx a H Q=>∃l b xs zs,x=.ref l/\a=[.ref b]/\H l=some (.lst xs)/\H b=some (.lst zs)/\xs.length+zs.length<=sizeLine/\Q .non (upd H l (.lst (xs++zs)))
def kq:UU X "list.extend" MS:=by
 intro f s y H x B v us Q I i j h;obtain⟨l,b,xs,zs,rfl,rfl,g,t,hz,q⟩:=h;cases i;obtain⟨u,rfl,k⟩:=j.one;cases k;obtain⟨z,c,n,r,C,e⟩:=I.lstM g;obtain⟨A,a,o,m,p,w⟩:=I.lstM t;have hsz:c.toArray.size+a.toArray.size<=sizeLine:=by rw[Wy,Wy];omega
 have d:¬ (!c.toArray.isEmpty&&Builtin.List.listTooLong (c.toArray.size+a.toArray.size))=true:=by
  rw[Kz hsz,Bool.and_false];exact We
 refine call_meets F.slot_list_extend ⟨_,e,rfl⟩ F.entry_list_extend (F.args_list_extend_2 _ _)
  (AutoSeq1.list_extend_list_list_0 l c.toArray n b a.toArray o d (by rw[Wy];omega) (by omega)) ⟨e,w,?_⟩
 refine⟨.non,_,I.lset (its':=c++a) g e (by simp) (r.append m) ?_,rfl,q⟩;rw[WB];omega
def Uj:R2:=λx y H Q=>∃l b xs zs,x=.ref l/\y=.ref b/\H l=some (.lst xs)/\H b=some (.lst zs)/\xs.length+zs.length<=sizeLine/\∀p,H p=none->Q (.ref p) (upd H p (.lst (xs++zs)))
def PB:yD X (binaryOp .Add) Uj:=by
 intro d s t H x y v u Q I g f h;obtain⟨l,b,xs,zs,rfl,rfl,k,m,hz,q⟩:=h;cases g;cases f;obtain⟨z,c,n,r,B,e⟩:=I.lstM k;obtain⟨w,a,A,i,j,p⟩:=I.lstM m;refine PySem.P.add_list e p ?_ (by rw[Wy,Wy];omega);have o:c.toArray++a.toArray=(c++a).toArray:=by simp
 rw[o];exact⟨.ref _,_,I.lnew (t':=s.toks) (r.append i) (by rw[WB];omega),rfl,q _ I.fresh⟩
def jJ(xs:List a)(k:Nat):(List.replicate k xs).flatten.length=k*xs.length:=by
 induction k with
 | zero=>simp
 | succ k ih=>rw[List.replicate_succ,List.flatten_cons,WB,ih,Nat.succ_mul,Nat.add_comm]
end
section
variable{prog:Wr}{w:WC}{A:WM}{E:V5->V7->Prop}{s:V7}
set_option maxRecDepth 100000 in
end
section
variable{X:Cx}
end
end L2
namespace Att
open PySem PySem.W PySem.Calls PyProof.Rows
def eK:∀(c:List Int) (d:List V5),WellAll P h d (c.map WData.int)->IntsAre d c:=by
 intro c
 induction c with
 | nil =>
  intro d w;rw[List.map_nil] at w;cases w;exact .nil
 | cons n c ih =>
  intro d w;rw[Ww] at w;cases w with
  | cons a b =>
   cases a;exact .cons _ _ (ih _ b)
def Jd{l:OpenLaw}{n:Nat}(s:l.most=some n){P:Params}{h:WK}{args:List WData}{c:List V5}
  (e:l.row.toRowW.claim.pre args=true) (j:WellAll P h c args) :
  ∃a m b,c=[Value.ref a]/\args=[WData.list (b.map WData.int)]/\h.get? a=some {cls:=.type "list",data:=.seq m.toArray}/\IntsAre m b/\b.length<=n:=by
 have k:WShape.hasAll [] args [.list .int]=true:=(pre_splitW e).1;have o:l.pre.holds [] {args:=args}=true:=(pre_splitW e).2;obtain⟨d,r,rfl,h1,u⟩:=hasAllW_cons k;obtain rfl:=hasAllW_nil u;obtain⟨xs,rfl,t⟩:=hasW_list h1;obtain⟨b,rfl⟩:=items_int t
 have f:b.length<=n:=by
  unfold OpenLaw.pre at o
  have i:(WTm.not (.lt (.lit (.int (n:Int))) (.len (.arg 0)))).holds [] {args:=[.list (b.map .int)]}=true:=by
   have i:=(holds_andW o).1;rw[s] at i;exact i
  have g:=condW_of i (w_not (w_lt w_lit (w_len_list (w_arg rfl))));rw[V9] at g;refine Nat.le_of_not_lt λq=>?_
  have p:(n:Int)<((b.length:Nat):Int):=by omega
  first
   | (rw[WP p] at g;exact Wz g (by decide))
   | (simp at g;omega)
 cases j with
 | cons w1 w2 =>
  cases w2;cases w1 with
  | list ho hall=>exact⟨_,_,b,rfl,rfl,ho,eK b _ hall,f⟩
def IY(l:OpenLaw)(args:List WData):l.row.toRowW.claim.post args (.bool true) args=true:=
 postW_of (r:=l.row.toRowW) (X:=(true==true))
  (show WShape.has [] (.bool true) .bool=true by first | rfl | decide | simp[WShape.has,WShape.arms,WShape.armsAll])
  (show(WTm.eq .res (.lit (.bool true))).value [] {args:=args,res:=some (.bool true),after:=args}=some (.bool (true==true)) from w_eq_bool (w_res rfl) w_lit) rfl
def attach_call {l:OpenLaw} {n:Nat} {q:Wr} {c:List Str} {C:(Str->V3 V5)->WK->Prop} {B:WC->WK->Prop} {d:DefRec}
    (I:l.most=some n) (hdf:d.params.defaults=[])
    (call:∀(w:WC) (s₀ b:V7) (mg t:Str->V3 V5) (fa:V_) (o:Obj) (pm s g:V5) (a:V_) (h:List V5) (p:List Int),
      Ground q c [] C w s₀ mg t b.heap->B w b.heap ->
      b.heap.get? fa=some o->o.data=.func (docDef d.name d.params d.body d.scope pm s g)->b.heap.CodeRec s d.name->mg d.name=some (.ref fa) ->
      b.heap.get? a=some {cls:=.type "list",data:=.seq h.toArray}->IntsAre h p->p.length<=n->b.gens=#[] ->
      codeAny (model l.prog w) callerA (.call (.ref fa) ⟨[.ref a],[]⟩) (λr m=>r=.ok (.ret (.bool true))/\OldK b.heap m.heap/\m.os=b.os/\AllBare m.gens) b) :
    WalkO q c C B l.row.toRowW d [] (λf h=>PySem.call f h):=by
  intro w s₀ b mg t G Y fa o pm s g P kV H hd x A v L args y as i z E u K;obtain rfl:P=.none:=Dflts.none A hdf;obtain rfl:kV=.none:=Dflts.noKw A;obtain⟨a,h,p,rfl,rfl,j,e,k⟩:=Jd I i u;refine enter_call (codeAny_mono (call w s₀ b mg t fa o pm s g a h p G Y H (fd_plain hd) x v j e k L) λr m F=>?_);obtain⟨rfl,O,N,M⟩:=F;exact⟨.inl ⟨.bool true,.bool true,[],rfl,λ_=>rfl,.bool true,IY l _,λ_=>⟨List.Pairwise.nil,λ_ J=>(nomatch J)⟩⟩,O,N,M⟩
section
variable{prog:Wr}{w:WC}{A:WM}{E:V5->V7->Prop}{s:V7}{K:Frag}
end
end Att
namespace L2
open PySem PySem.Spec PyProof.Rows
theorem bX:∀{a:List V5} {b:List Int},IntsAre a b->qP (b.map V.int) a
 | _,_,.nil=>.nil
 | _,_,.cons n t h=>.cons ⟨t,rfl⟩ (bX h)
end L2
namespace L2
open PySem PySem.Spec PyProof.Rows
end L2
/- THE LAST THEOREM (shape;LID,My.* are yours):
  My.Adr: a structure of the addresses that your layer names (classes,functions);My.Txt K t: a structure (Prop) of the equations over K;
  My.txt_mk:{K} {implicit addresses ..} (e1:nsIn K mainGlobals "law" = some (some (.ref f))) (e2:K.lookup f=some ⟨oc,od,.func (fnOf "law" "law" params body scope dV kV doc pm an cdv ct),sl⟩) (e3:codeIn K cdv "law" = true) ..:∃t,My.Txt K t
set_option maxRecDepth 100000 in
set_option maxHeartbeats 0 in
theorem PySem.Challenge.cw_LID_holds : PySem.Challenge.rw_LID.Holds := by
 w_on;o_law;k_head;(case hw=>w_witness2)
 k_fill
 refine L2.walk_of (l:=PySem.Challenge.rw_LID) (n:=63) (k:=40) (x:="script") (CX:=λw=>..) (sp:=λ_=>My.sp_law) rfl (by decide) rfl ⟨rfl,by decide,by decide⟩ (λw h Y=>PySem.W.kIn_of Y) ?F ?S ?C
 case F =>
  intro w mg fa h j G i
  have T:∃t,My.Txt (L2.KOf j) t:=by
   dsimp only [L2.KOf]                          -- K must stand as «<heap const> w.params» for c;refine' My.txt_mk ?e1 ?e2 ?e3 ..
   (case e1=>PySem.W.k_is)                    -- in d order: a name->its address->its object->its parts
   (case e2=>PySem.W.k_is)
   ..
  obtain⟨t,T⟩:=T;have m:=i.symm.trans (Xo j G T.law);cases m                                       -- fa is d law's own address;exact⟨_,λs u=>.of_eq rfl,λbase g f=>My.law_fn T g f⟩     -- if «.of_eq rfl» comes too early: refine' ⟨_,?b,λbase g f=>My.law_fn T g f⟩;exact λs u=>.of_eq rfl
 case S=>exact λw H a o p hO q=>..
 case C=>exact ..
(d e c has no namespace: write c) -/
namespace L2
open PySem PySem.Spec PyProof.Rows
def rK(s:Xi):Arguments:=match s with
 | .FunctionDef _ a _ _ _ _ _ _ _ _=>a
 | _=>{posonlyargs:=[],args:=[],vararg:=none,kwonlyargs:=[],kw_defaults:=[],kwarg:=none,defaults:=[]}
def qW(s:Xi):List Xi:=match s with
 | .FunctionDef _ _ b _ _ _ _ _ _ _=>b
 | _=>[]
def g9(s:Xi):Scope:=match s with
 | .FunctionDef _ _ _ _ _ _ sc _ _ _=>sc
 | _=>{kind:=.function,names:=[],isGenerator:=false,isCoroutine:=false}
abbrev vq:FW:=λ_ _ _ _ _ _=>False
abbrev E0:XK:=λ_ _ _=>False
def AB:F6 vq X E0:=λ_ _ _ _ _ _ _ h=>h.elim
structure Hh (K:Wb) (x qual:Str) (st:Xi) (f:V_) (fd:W_):Prop where
 ex:∃(oc:V5) (od:V3 V_) (kV doc pm:V5) (an:V3 V_) (cdv ct:V5) (osl:Array (V3 V5)),
  fd=PySem.W.fnOf x qual (rK st) (qW st) (g9 st) .none kV doc pm an cdv ct/\K.lookup f=some ⟨oc,od,.func fd,osl⟩/\PySem.W.codeIn K cdv qual=true
 kp:PySem.W.keepIn K (.ref f)=true
section
variable{P:Wr}{w:WC}{K:Wb}{mg:Str->V3 V5}{base:WK}
def Hh.ok {x qual:Str} {st:Xi} {f:V_} {fd:W_} {N ps:List Str} {k:Nat} {sp:Sp} (F:Hh K x qual st f fd) (S:sL N ps (g9 st)) (len:∀ b H Q E,sp b H Q E->b.length=ps.length)
    (c:∀(a:V5) (A:WM) (outer:List Env) (s:V7) (H:Hp) (b:List V) (Q:VK) (E:XK),rJ k (A.deeper (envOfC qual (g9 st) s.heap.objs.size f a))->sp b H Q E ->
      ∃t,PSs (wY vq P w K mg base N qual (g9 st) f a A outer s H E).nox (qW st) t/\t {nx:=λ_ l=>Q .non l,rt:=Q} (start N b) H):rM P w K mg base vq (k+1) f fd ps sp:=by
  obtain⟨n,m,kV,j,pm,o,a,ct,g,rfl,lk,e⟩:=F.ex;refine og lk e S len λA outer s H b Q E i d=>?_
  obtain⟨t,h,q⟩:=c a A outer s H b Q E i d;exact⟨t,h.nox,q⟩
def Hh.binds{x qual:Str}{st:Xi}{f:V_}{fd:W_}{ps:List Str}(F:Hh K x qual st f fd)
  (h:∀(kV a pm:V5) (c:V3 V_) (b ct:V5) (us:List V5),us.length=ps.length->bindArgs (PySem.W.fnOf x qual (rK st) (qW st) (g9 st) .none kV a pm c b ct) ⟨us,[]⟩=pure (ps.zip us)):Binds K fd ps []:=by
 obtain⟨i,g,kV,a,pm,c,b,ct,d,rfl,lk,e⟩:=F.ex;exact .all (h kV a pm c b ct)
def lC{x qual:Str}{st:Xi}{f:V_}{h:V5}{g e:V3 V_}{d:Array (V3 V5)}{kV b pm a ct:V5}(l:K.lookup f=some ⟨h,g,.func (PySem.W.fnOf x qual (rK st) (qW st) (g9 st) .none kV b pm e a ct),d⟩)
  (c:PySem.W.codeIn K a qual=true) (k:PySem.W.keepIn K (.ref f)=true):Hh K x qual st f (PySem.W.fnOf x qual (rK st) (qW st) (g9 st) .none kV b pm e a ct):=⟨⟨h,g,kV,b,pm,e,a,ct,d,rfl,l,c⟩,k⟩
end
def FF{k:Nat}(a:rJ k A):A.units+1<cLine:=Xg (Nat.add_le_add_left (by decide:1<=64) _) a.units
def wK{n:Nat}(h:n<=1000):n<sizeLine:=Xg h (by decide)
section
variable{X:Cx}
def pv(i:Nat)(c:X.N[i]?=some x:=by rfl)(b:Do X.env.scope x:=by first | exact Or.inl rfl | exact Or.inr (Or.inl rfl) | exact Or.inr (Or.inr rfl))(hd:(x==("__debug__" : Str))=false:=by decide)
  (a:(x==("__classdict__" : Str))=false:=by decide):PE X (.Name x pos) (Sx i):=gB c b hd a
end
def g6(H a:Hp):Prop:=∀b o,H b=some o->a b=some o
def g6.refl(H:Hp):g6 H H:=λ_ _ h=>h
def g6.trans(a:g6 H e)(b:g6 e d):g6 H d:=λc o h=>b c o (a c o h)
def g6.seq{K:Wb}(e:g6 H b)(h:uI K H a xs):uI K b a xs:=by
 rcases h with (h | ⟨o,h⟩) | h
 ·exact .inl (.inl (e _ _ h))
 ·exact .inl (.inr ⟨o,e _ _ h⟩)
 ·exact .inr h
end L2
set_option maxHeartbeats 1000000
namespace HW
open PySem PySem.Spec PyProof.Rows L2
structure rf where
 c:V_
 P:V_
 q:Str
def BW(a:List rf)(b:V_):V3 HO:=(a.find? λt=>t.P==b).map λt=>.tbl t.q false
def Ae(h:BW a b=some u):∃t∈a,t.P=b/\u=.tbl t.q false:=by
 unfold BW at h;cases e:a.find? λt=>t.P==b with
 | none=>rw[e] at h;cases h
 | some t =>
  rw[e] at h;cases h;exact⟨t,List.mem_of_find?_eq_some e,by simpa using List.find?_some e,rfl⟩
def HZ(c:List rf)(a:V_)(H:Hp):Prop:=∀b,(b≠a/\H b=BW c b)\/(b=a/\(H b=none\/∃o xs,H b=some (.frz o (.lst xs))))
structure rL (mg:Str->V3 V5) (ts:List rf) (base:WK):Prop where
 code:∀t∈ts,W.CodeHd base t.c t.P
 bm:∃bm o,mg "__builtins__" = some (.ref bm)/\bm≠builtinsNs/\bm≠mainGlobals/\base.get? bm=some o/\o.cls=.type "module" /\ o.dict=some builtinsNs/\o.data=.plain
def IS{K:Wb}{k:Nat}
  (KX:K.In f.heap) (U:f.heap.Ns mainGlobals mg) (l:f.heap.Ns builtinsNs mb) (hbb:∀x:Str,x ≠ "__name__" -> mb x=bootBuiltins x) (X:f.heap.NoLimit) (hg:f.gens=#[])
  (O:f.heap.get? a=some {cls:=.type "list",data:=.seq J.toArray}) (hi:IntsAre J S) (hl:S.length<=sizeLine) (hr:rJ k callerA)
  (hT:∀t∈p,W.CodeHd f.heap t.c t.P/\f.heap.get? t.P=some (W.tabObj #[])) (hK:∀t∈p,K.lookup t.P=none)
  (hbm:∃bm o,mg "__builtins__" = some (.ref bm)/\bm≠builtinsNs/\bm≠mainGlobals/\f.heap.get? bm=some o/\o.cls=.type "module" /\ o.dict=some builtinsNs/\o.data=.plain)
  (F:∀base:WK,K.In base->base.Ns mainGlobals mg->rL mg p base->rM P w K mg base CX k fa fd [x] sp) (M:∀(s:V7) (u:V5),BindsTo s fd ⟨[u],[]⟩ [(x,u)])
  (hsp:∀H:Hp,HZ p a H->(∀t∈p,t.P≠a)->uI K H a (S.map V.int)->sp [.ref a] H (λv _=>v=.bl true) λ_ _ _=>False)
  (hCX:∀H e A,CX [] H f (λ_ _ _=>False) e A->False) :
  codeAny (model P w) callerA (.call (.ref fa) ⟨[.ref a],[]⟩) (λr A=>r=.ok (.ret (.bool true))/\OldK f.heap A.heap/\A.os=f.os/\AllBare A.gens) f:=by
 have rv:=bX hi;have T:=hi.length
 have aP:∀t∈p,t.P≠a:=λt j z=>by
  have e:=(hT t j).2;rw[z,O] at e;cases e
 have C:∀(H:Hp) {b:V_} {u:HO},BW p b=some u->rO P w H f.heap b u:=λH {b u} h=>by
  obtain⟨t,j,rfl,rfl⟩:=Ae h;exact⟨#[],(hT t j).2,trivial,λpos cv hc=>by cases hc⟩
 have I:∀H:Hp,HZ p a H->uI K H a (S.map V.int)->xy P w H f.heap->(H a≠none->K.lookup a=none) ->
   codeAny (model P w) callerA (.call (.ref fa) ⟨[.ref a],[]⟩) (λr A=>r=.ok (.ret (.bool true))/\OldK f.heap A.heap/\A.os=f.os/\AllBare A.gens) f:=by
  intro H hO hS hok hKa
  have B:∀{b:V_} {u:HO},H b=some u->(b=a)\/∃t∈p,t.P=b/\u=.tbl t.q false:=λ{b u} e=>by
   rcases hO b with ⟨_,z⟩ | ⟨z,_⟩
   ·rw[e] at z;exact .inr (Ae z.symm)
   ·exact .inl z
  have i:∀{b:V_} {o:Obj},f.heap.get? b=some o->H b=none->(BR f.heap H).get? b=some o:=λe n=>Ld e n
  have free:∀{b:V_} {o:Obj},f.heap.get? b=some o->(∀(L:Array V5) n,o.data≠.seq L n)->(o.cls≠.none)->H b=none:=λ{b o} e h1 h2=>by
   cases q:H b with
   | none=>rfl
   | some u =>
    rcases B q with z | ⟨t,j,z,_⟩
    ·rw[z,O] at e;cases e;exact Wz rfl (h1 _ _)
    ·rw[<- z,(hT t j).2] at e;cases e;exact Wz rfl h2
  have noA:∀{b:V_} {o:Obj} {es:Array DictEntry} {ep:Nat},f.heap.get? b=some o->o.data=.dict es ep->H b=none:=λ{b o es ep} e d=>by
   cases q:H b with
   | none=>rfl
   | some u =>
    rcases B q with z | ⟨t,j,z,_⟩
    ·rw[z,O] at e;cases e;cases (show Data.seq J.toArray _=Data.dict es ep from d)
    ·rw[<- z,(hT t j).2] at e;cases e;cases d
  have E:∀{b:V_} {m:Str->V3 V5},f.heap.Ns b m->(BR f.heap H).Ns b m:=λ{b m} ⟨o,es,ep,e,d,r⟩=>⟨o,es,ep,i e (noA e d),d,r⟩
  have Y:K.In (BR f.heap H):=λb o e=>i (KX b o e) (by
   cases q:H b with
   | none=>rfl
   | some u =>
    rcases B q with z | ⟨t,j,z,_⟩
    ·subst z;rw[hKa (by rw[q];simp)] at e;cases e
    ·rw[<- z,hK t j] at e;cases e)
  have hM:Mod K mg (BR f.heap H):=⟨Y,E U,⟨mb,E l,hbb⟩,let ⟨mc,h1,h2⟩:=X;⟨mc,E h1,h2⟩⟩
  have hTB:rL mg p (BR f.heap H):=by
   refine⟨λt j=>?_,?_⟩
   ·obtain⟨o,vs',Z,tf,N,tg,inF,Q,tt,e,ec,ed,r⟩:=(hT t j).1
    exact⟨o,vs',Z,tf,N,tg,inF,Q,tt,i e (free e (λL n z=>by rw[ed] at z;cases z) (by rw[ec];simp)),ec,ed,r⟩
   ·obtain⟨bm,o,b1,b2,b3,b4,b5,b6,b7⟩:=hbm
    exact⟨bm,o,b1,b2,b3,i b4 (free b4 (λL n z=>by rw[b7] at z;cases z) (by rw[b5];simp)),b5,b6,b7⟩
  have e0:I8 P w K mg (BR f.heap H) callerA [] f H:=⟨rfl,hM,λb o e=>NJ e,Nat.le_of_eq (Jk _ _),trivial,λb l=>Wz (show b∈([]:List V_) from l) (by simp),hok,.of_eq hg⟩
  refine codeAny_mono ((F _ Y (E U) hTB).run callerA [] f H ⟨[.ref a],[]⟩ [.ref a] [.ref a] _ _ hr e0 (M f (.ref a)) (.cons rfl .nil) (hsp H hO aP hS)) λr A h=>?_
  cases r with
  | error e=>exact(hCX H e A h).elim
  | ok fl =>
   cases fl with
   | next=>exact False.elim h
   | brk=>exact False.elim h
   | cont=>exact False.elim h
   | ret u =>
    obtain⟨v,H',os,bare,un,G,r',q⟩:=h;have q':v=.bl true:=q;subst q';obtain rfl:u=Value.bool true:=r'
    have tab:∀{b:V_} {o:Obj},f.heap.get? b=some o->(A.heap.get? b=some o)\/∃t∈p,t.P=b/\o=W.tabObj #[]/\∃ps,A.heap.get? b=some (W.tabObj ps):=λ{b o} e=>by
     cases qb:H b with
     | none=>exact .inl (un.keep b o e qb (by intro z;exact Wz (show b∈([]:List V_) from z) (by simp)) (by simp))
     | some u =>
      rcases hO b with ⟨_,z⟩ | ⟨_,z⟩
      ·rw[qb] at z
       obtain⟨t,j,zP,rfl⟩:=Ae z.symm;have z2:=un.tbls b _ _ qb;obtain⟨ps,g,_⟩:=(show rO P w H' A.heap b (.tbl t.q false) from G b _ z2)
       have e2:=(hT t j).2;rw[zP,e] at e2;exact .inr ⟨t,j,zP,Wq e2,ps,g⟩
      ·rcases z with z | ⟨ob,xs,z⟩
       ·rw[qb] at z;cases z
       ·have z2:=un.frzs b ob _ (λy q=>by cases q) z
        obtain⟨e1,_⟩:=hok b _ z;obtain⟨e2,_⟩:=G b _ z2;rw[e] at e1;cases e1;exact .inl e2
    refine⟨rfl,⟨λb o e=>?_,λb o e=>?_⟩,os,bare⟩
    ·rcases tab e with z | ⟨t,j,rfl,rfl,ps,g⟩
     ·exact .inl z
     ·exact .inr (.inl ⟨((hT t j).1.tab (hT t j).2).isCodeTable,rfl,#[],ps,rfl,by rw[Array.empty_append];exact g⟩)
    ·rcases tab e with z | ⟨t,j,rfl,rfl,ps,g⟩
     ·exact⟨_,z⟩
     ·exact⟨_,g⟩
 cases hk:K.lookup a with
 | some o =>
  have e:=KX a o hk;rw[O] at e;cases e
  have hn:BW p a=none:=by
   cases q:BW p a with
   | none=>rfl
   | some u=>obtain⟨t,j,z,_⟩:=Ae q;exact Wz z (aP t j)
  refine I (BW p) (λb=>?_) (.inr ⟨_,J.toArray,_,hk,rfl,rfl,rfl,by rw[Wy,T];exact hl,by simpa using rv⟩) (λb u z=>C _ z) λz=>Wz hn z
  by_cases l:b=a
  ·exact .inr ⟨l,.inl (by rw[l];exact hn)⟩
  ·exact .inl ⟨l,rfl⟩
 | none =>
  refine I (λb=>if b=a then some (.frz {cls:=.type "list",data:=.seq J.toArray} (.lst (S.map V.int))) else BW p b) (λb=>?_) (.inl (.inr ⟨{cls:=.type "list",data:=.seq J.toArray},Wc rfl⟩)) (λb u z=>?_) λ_=>hk
  ·by_cases l:b=a
   ·exact .inr ⟨l,.inr ⟨_,_,Wc l⟩⟩
   ·exact .inl ⟨l,Wu l⟩
  ·by_cases l:b=a
   ·have z':=(Wc l).symm.trans z
    cases z';subst l;exact⟨O,by rw[V9];exact hl,J,_,rv,O⟩
   ·exact C _ ((Wu l).symm.trans z)
theorem x_{i j:Int}:∀{l:List V5},TriplesOk l->TriplesOk (l++[.int i t,.int j u,c])
 | [],_=>trivial
 | .int _ _::.int _ _::_::rest,h=>x_ (l:=rest) h
theorem AC{i j:Int}:∀{l:List V5},TriplesOk l->codeAmong pos (l++[.int i t,.int j u,c])=some e->codeAmong pos l=some e\/e=c
 | [],_,h=>by
  have h':(if (i==pos.line&&j==pos.col)=true then some c else codeAmong pos [])=some e:=h;split at h'
  ·cases h';exact .inr rfl
  ·cases h'
 | .int a ta::.int b tb::d::rest,hl,h=>by
  have h':(if (a==pos.line&&b==pos.col)=true then some d else codeAmong pos (rest++[.int i t,.int j u,c]))=some e:=h;show(if (a==pos.line&&b==pos.col)=true then some d else codeAmong pos rest)=some e\/_;split at h'
  ·rename_i z;rw[Wc z];exact .inl h'
  ·rename_i z;rw[Wu z];exact AC (l:=rest) hl h'
section
variable{X:Cx}{pins:List (V_×Obj)}{σ:L2.St}{H:Hp}{s:V7}
abbrev we(o:Obj):HO:=.frz o (.ext λ_=>True)
def K8{p:Nat}(I:L2.Inv X pins σ H s)(TB:rL X.mg T X.base)(ht:t∈T)(K:H t.P=some (.tbl t.q false))(k:X.env.code=.ref t.c)
  (hcl:closureFor scope X.env=pure a):wpAny (model X.prog X.w) X.A (makeFunction name t.q params (.expr body) scope X.env [] [] [] pos p)
   (λv s'=>∃f c' ctv pm M,v=.ref f/\L2.Inv X pins σ M s'/\g6 H M/\H f=none/\M f=some (we (W.kla_obj name t.q params body scope a pm c' ctv))/\M c'=some (.tbl t.q true)) X.xe s:=by
 obtain⟨tv,Z,tr,L⟩:=(show rO X.prog X.w H s.heap t.P (.tbl t.q false) from I.hok _ _ K)
 have Y:s.heap.Ns mainGlobals X.mg:=I.mod.glob.keeps I.bk;have C:W.CodeHd s.heap t.c t.P:=(TB.code t ht).keeps I.bk
 have i:∀{b:V_} {o:Obj},X.base.get? b=some o->b≠t.P:=λe z=>by
  have:=(I.bs _ _ e).2;rw[z,K] at this;cases this
 have N:mainGlobals≠t.P:=by
  obtain⟨o,_,_,e,_⟩:=I.mod.glob;exact i e
 have J:s.heap.BuiltinsAt X.mg t.P:=by
  obtain⟨bm,o,b1,b2,b3,b4,b5⟩:=TB.bm;exact⟨bm,o,b1,b2,b3,i b4,I.bk _ _ b4,b5⟩
 cases O:codeAmong pos tv.toList with
 | none =>
  refine W.kla_makeFunction hcl I.ok.glob Y k C Z tr O N J λc' ctv h' tk hx h j y x=>?_
  have g:∀{b:V_} {u:HO},H b=some u->b≠c'/\b≠h'.objs.size:=λe=>by
   have q:=I.hok.lt e;exact⟨WA (Wv q h),WA (Wv q (WD h (Nat.le_of_lt j)))⟩
  have Q:H h'.objs.size=none:=I.hok.fresh (WD h (Nat.le_of_lt j));have hCn:H c'=none:=I.hok.fresh h;refine⟨h'.objs.size,c',ctv,_,upd (upd H c' (.tbl t.q true)) h'.objs.size (we (W.kla_obj name t.q params body scope a ((X.mg "__name__").getD .none) c' ctv)),rfl,?_,λb u e=>?_,Q,aa,?_⟩
  ·have kp:∀b o,b≠t.P->s.heap.get? b=some o->(h'.push (W.kla_obj name t.q params body scope a ((X.mg "__name__").getD .none) c' ctv)).get? b=some o:=λb o nb e=>V6 _ (hx b o nb e)
   have U:∀{b:V_},H b=none->b≠t.P:=λe z=>by rw[z,K] at e;cases e
   have st:∀{b:V_} {u:HO},H b=some u->upd (upd H c' (.tbl t.q true)) h'.objs.size (we (W.kla_obj name t.q params body scope a ((X.mg "__name__").getD .none) c' ctv)) b=some u:=λe=>by rw[ac (g e).2,ac (g e).1];exact e
   refine I.un ⟨λb o e n _ _=>kp b o (U n) e,λb o e n _ _=>⟨o.slots,kp b o (U n) e⟩,λb o e n _=>?_,λb o e _=>?_,λb xs e=>st e,λb o u _ e=>st e,λb q d e=>st e⟩ λb u e=>?_
   ·have q:=Wp e
    rw[ac (WA (Wv q (WD h (Nat.le_of_lt j)))),ac (WA (Wv q h))];exact n
   ·by_cases J:b=t.P
    ·exact⟨_,by rw[J];exact V6 _ x⟩
    ·exact⟨o,kp b o J e⟩
   ·by_cases l:b=h'.objs.size
    ·subst l
     rw[aa] at e;cases e;exact⟨Wf _ rfl,trivial,⟨_,Wf _ rfl⟩,λ_ _ _ _=>trivial⟩
    ·rw[ac l] at e
     by_cases F:b=c'
     ·subst F
      rw[aa] at e;cases e;exact y.push _
     ·rw[ac F] at e
      by_cases G:b=t.P
      ·subst G
       rw[K] at e;cases e;refine⟨_,V6 _ x,by rw[Array.toList_append];exact x_ tr,λpos' S B=>?_⟩;rw[Array.toList_append] at B;rcases AC tr B with z | z
       ·obtain⟨c2,e1,e2⟩:=L pos' S z
        exact⟨c2,e1,st e2⟩
       ·exact⟨c',z,by rw[ac (WA j),aa]⟩
      ·refine(I.hok b u e).stay (λc v m r=>kp c v (λz=>?_) r) (λc r=>st r) (λc xs r=>st r) λc q d r=>st r
       rcases m with rfl | m
       ·exact G z
       ·rw[z,K] at m;cases m
  ·rw[ac (g e).2,ac (g e).1];exact e
  ·rw[ac (WA j),aa]
 | some S =>
  obtain⟨c',rfl,E⟩:=L pos S O;refine W.kla_makeFunctionHit hcl I.ok.glob Y k C Z tr O J λctv h' tk hk hsz=>?_
  have g:∀{b:V_} {u:HO},H b=some u->b≠h'.objs.size:=λe=>by
   exact WA (Wv (I.hok.lt e) hsz)
  have Q:H h'.objs.size=none:=I.hok.fresh hsz;refine⟨h'.objs.size,c',ctv,_,upd H h'.objs.size (we (W.kla_obj name t.q params body scope a ((X.mg "__name__").getD .none) c' ctv)),rfl,?_,λb u e=>?_,Q,aa,?_⟩
  ·have kp:∀b o,s.heap.get? b=some o->(h'.push (W.kla_obj name t.q params body scope a ((X.mg "__name__").getD .none) c' ctv)).get? b=some o:=λb o e=>V6 _ (hk b o e)
   have st:∀{b:V_} {u:HO},H b=some u->upd H h'.objs.size (we (W.kla_obj name t.q params body scope a ((X.mg "__name__").getD .none) c' ctv)) b=some u:=λe=>by rw[ac (g e)];exact e
   refine I.un ⟨λb o e n _ _=>kp b o e,λb o e n _ _=>⟨o.slots,kp b o e⟩,λb o e n _=>?_,λb o e _=>⟨o,kp b o e⟩,λb xs e=>st e,λb o u _ e=>st e,λb q d e=>st e⟩ λb u e=>?_
   ·rw[ac (WA (Wv (Wp e) hsz))];exact n
   ·by_cases l:b=h'.objs.size
    ·subst l
     rw[aa] at e;cases e;exact⟨Wf _ rfl,trivial,⟨_,Wf _ rfl⟩,λ_ _ _ _=>trivial⟩
    ·rw[ac l] at e
     exact(I.hok b u e).stay (λc v _ r=>kp c v r) (λc r=>st r) (λc xs r=>st r) λc q d r=>st r
  ·rw[ac (g e)];exact e
  ·rw[ac (g E)];exact E
end
theorem vd:∀{l:List (Str×a)} {x:Str} {u:a},(l.map (·.1)).Nodup->(x,u)∈l->l.lookup x=some u
 | (y,v)::l,x,u,nd,h=>by
  rw[Ww,List.nodup_cons] at nd;rw[List.lookup_cons];rcases Wo.mp h with e | h
  ·cases e;simp
  ·have b:(x==y)=false:=WQ.mpr λz=>nd.1 (List.mem_map.mpr ⟨(x,u),h,z⟩)
   rw[b];exact vd nd.2 h
def tN(cl:List (Str×V_))(b:V_):Bool:=cl.any λp=>p.2==b
def vV(cl:List (Str×V_))(H:Hp):Hp:=λb=>if tN cl b then none else H b
def CI(cl:List (Str×V_))(H a:Hp):Hp:=λb=>if tN cl b then H b else a b
def Gx(h:cl.lookup x=some c):tN cl c=true:=List.any_eq_true.mpr ⟨(x,c),Xd h,by simp⟩
structure vi (N ps:List Str) (sc:Scope) (cl:List (Str×V_)):Prop where
 kind:sc.kind=.function
 co:sc.isCoroutine=false
 gen:sc.isGenerator=false
 nd:N.Nodup
 pre:N.take ps.length=ps
 par:∀x∈ps,sc.names.lookup x=some .local
 nocell:∀y∈sc.names,y.2≠.cell
 fre:∀x∈N.drop ps.length,sc.names.lookup x=some .free
 has:∀x,sc.names.lookup x=some .free->∃c,cl.lookup x=some c
 ndc:(cl.map (·.1)).Nodup
 inj:∀x y c,cl.lookup x=some c->cl.lookup y=some c->x=y
def xF(H:Hp)(N ps:List Str)(cl:List (Str×V_))(caps:List V):Prop:=
 caps.length=N.length - ps.length/\(∀b,tN cl b=true->∃o u,H b=some (we o)/\o.data=.cell (some u))/\∀(i:Nat) (x:Str) (v:V),(N.drop ps.length)[i]?=some x->caps[i]?=some v->∃c o u,cl.lookup x=some c/\H c=some (we o)/\o.data=.cell (some u)/\RelV v u
def xF.to(h:xF H N ps cl caps)(s:∀b o,H b=some (we o)->a b=some (we o)):xF a N ps cl caps:=by
 obtain⟨h1,l,k⟩:=h;refine⟨h1,λb j=>?_,λi x v g f=>?_⟩
 ·obtain⟨o,u,e,d⟩:=l b j
  exact⟨o,u,s b o e,d⟩
 ·obtain⟨c,o,u,n,m,r⟩:=k i x v g f
  exact⟨c,o,u,n,s c o m,r⟩
noncomputable def Hd(CX:FW)(P:Wr)(w:WC)(K:Wb)(mg:Str->V3 V5)(base:WK)(N:List Str)(qual:Str)(scope:Scope)(cl:List (Str×V_))(f:V_)(b:V5)(A:WM)(outer:List Env)(s:V7)(H:Hp)(E:XK):Cx where
 prog:=P
 w:=w
 K:=K
 mg:=mg
 base:=base
 A:=A.deeper (W.envX qual scope s.heap.objs.size f b cl)
 N:=N
 s₀:=s
 H₀:=vV cl H
 env:=W.envX qual scope s.heap.objs.size f b cl
 outer:=outer
 stack:=W.envX qual scope s.heap.objs.size f b cl::outer
 ex:=[]
 calm:=true
 fn:=λ_=>false
 pn:=[]
 xe:=λe c=>wpAny (model P w) (A.deeper (W.envX qual scope s.heap.objs.size f b cl)) (leaving (W.envX qual scope s.heap.objs.size f b cl) e) (λ_ a=>CX outer H s E e a) (λd a=>CX outer H s E d a) c
def QV {K:Wb} {k:Nat}
    (S:vi N ps scope cl) (len:∀C H Q E,sp C H Q E->C.length=ps.length)
    (pre:∀C H Q E,sp C H Q E->H f=some (we (W.kla_obj name qual params body scope cl pm c' ctv))/\H c'=some (.tbl qual true))
    (X:∀(A:WM) (outer:List Env) (s:V7) (H:Hp) (C:List V) (Q:VK) (E:XK),rJ k (A.deeper (W.envX qual scope s.heap.objs.size f (.ref c') cl))->I8 P w K mg base A outer s H->sp C H Q E ->
      ∃caps t,xF H N ps cl caps/\PE (Hd CX P w K mg base N qual scope cl f (.ref c') A outer s H E) body t/\t ((C++caps).map some) (vV cl H) λv G=>(∀b u,G b=some u->CI cl H G b=some u)->Q v (CI cl H G)) :
    rM P w K mg base CX (k+1) f (W.kla_fn name qual params body scope cl pm (.ref c') ctv) ps sp:=by
  refine⟨len,λA outer s H args us C Q E hr l j r O=>?_⟩;have hl:=len _ _ _ _ O;obtain⟨hf,hc'⟩:=pre _ _ _ _ O;obtain⟨caps,t,⟨cl1,Y,cl3⟩,ht,hq⟩:=X A outer s H C Q E (hr.deeper _) l O;have lim:s.heap.NoLimit:=l.mod.nolimit.keeps λb o e=>(l.bs b o e).1
  have ndP:ps.Nodup:=by rw[<- S.pre];exact S.nd.sublist (List.take_sublist _ _)
  have hpl:ps.length<=N.length:=by have:=congrArg List.length S.pre;rw[Xn] at this;omega
  have hul:us.length=ps.length:=by rw[<- r.length];exact hl
  have dr:∀{b:V_} {u:HO},H b=some u->(∀o,u≠we o)->tN cl b=false:=λ{b u} e n=>by
    cases q:tN cl b with
    | false=>rfl
    | true=>obtain⟨o,v,z,_⟩:=Y b q;rw[e] at z;cases z;exact Wz rfl (n o)
  have dk:∀{b:V_} {u:HO},H b=some u->(∀o,u≠we o)->vV cl H b=some u:=λ{b u} e n=>by
    show(if tN cl b then none else H b)=_;rw[dr e n];exact e
  have dn:∀{b:V_},H b=none->vV cl H b=none:=λ{b} e=>by
    show(if tN cl b then none else H b)=_;split
    · rfl
    · exact e
  refine W.kla_callFunE hr.depth (l.hok f _ hf).1 rfl S.co S.gen rfl (show rO P w H s.heap c' (.tbl qual true) from l.hok c' _ hc') (j _ _ _ _ ?_);refine wpAny_newFunctionEnv S.nocell (λ⟨n,v⟩ M=>S.par n (List.of_mem_zip M).1) (λL hns hsb=>⟨lim.fresh _ hsb,?_⟩) S.kind;show codeAny _ _ (.expr body (W.envX qual scope s.heap.objs.size f (.ref c') cl)) _ _;have hk:∀b o,s.heap.get? b=some o->L.get? b=some o:=λb o e=>hsb.extBut b o (WA (Wp e)) (V6 _ e)
  have B:∀b:V_,b∉(Hd CX P w K mg base N qual scope cl f (.ref c') A outer s H E).ex:=λb z=>Wz (show b∈([]:List V_) from z) (by simp)
  have U:∀x c,cl.lookup x=some c->∃u,L.IsCell c (some u):=λx c e=>by
    obtain⟨o,u,z,d⟩:=Y c (Gx e);exact⟨u,o,hk _ _ (l.hok c _ z).1,d⟩
  have I:L2.Inv (Hd CX P w K mg base N qual scope cl f (.ref c') A outer s H E) [] ((C++caps).map some) (vV cl H) {s with heap:=L,toks:=s.toks+(ps.zip us).length}:=by
    refine⟨⟨l.mod,S.kind,rfl,rfl,Wl _,S.inj,λy M=>?_,λy c z _=>(by cases z),λ_=>hr.hd,Around.frames_deeper l.frames,.inr ⟨rfl,rfl⟩,λb z=>Wz z (B b),λb o e=>⟨(l.bs b o e).1,dn (l.bs b o e).2⟩,l.bsz,λb _ _=>B b,λb z=>Wz z (B b),l.funs,λb j=>dn (l.frf b j)⟩,
      rfl,l.bare,Un.kept hk,⟨_,hns,λi y v h1 h2 h3=>?_⟩,λy c h=>let ⟨u,z⟩:=U y c h;⟨_,z⟩,dn (l.hok.fresh (Wl _)),λy c h=>?_,λp Z=>Wz (show p∈([]:List (V_×Obj)) from Z) (by simp),λb u e=>?_,?_⟩
    · have M:scope.names.lookup y=some .cell\/scope.names.lookup y=some .free:=M
      rcases M with M | M
      · exact Wz rfl (S.nocell _ (Xd M))
      · exact S.has y M
    · rw[Wg] at h2
      cases e:(C++caps)[i]? with
      | none=>rw[e] at h2;cases h2
      | some z =>
        rw[e] at h2;cases h2;by_cases hi:i<C.length
        · rw[WV hi] at e
          obtain⟨u,hu,rv⟩:=r.get e;have Z:ps[i]?=some y:=by rw[<- S.pre,List.getElem?_take_of_lt (by omega)];exact h1
          refine⟨u,rv,.inl ⟨S.par y (Wi Z),?_⟩⟩;show(ps.zip us).reverse.lookup y=some u;refine vd ?_ ?_
          · rw[List.map_reverse,List.map_fst_zip (by omega),List.Nodup,List.pairwise_reverse];exact ndP.imp λh=>Ne.symm h
          · rw[List.mem_reverse]
            exact Wi (i:=i) (List.getElem?_zip_eq_some.mpr ⟨Z,hu⟩)
        · rw[WI (by omega)] at e
          have hd:(N.drop ps.length)[i - C.length]?=some y:=by rw[List.getElem?_drop,show ps.length+(i - C.length)=i by omega];exact h1
          obtain⟨c,o,u,h4,h5,h6,h7⟩:=cl3 _ y v hd e;exact⟨u,h7,.inr ⟨.inr (S.fre y (Wi hd)),c,h4,o,hk _ _ (l.hok c _ h5).1,h6⟩⟩
    · show(if tN cl c then none else H c)=none
      rw[Gx (show cl.lookup y=some c from h)];rfl
    · have e':(if tN cl b then none else H b)=some u:=e
      cases q:tN cl b with
      | true=>rw[q] at e';cases e'
      | false =>
        rw[q] at e';exact(l.hok b u e').stay (λc v _ g=>hk c v g) (λc g=>dk g λo z=>by cases z) (λc xs g=>dk g λo z=>by cases z) λc a d g=>dk g λo z=>by cases z
    · show((C++caps).map some).length=N.length
      rw[V9,WB,cl1,hl];omega
  refine W.kla_codeExpr (Xj (ht [] _ _ _ _ I hq) (λu s' hs=>?_) λe s' hs=>hs);obtain⟨v,G,J,rv,q⟩:=hs
  have F:∀{b:V_},tN cl b=true->∃o,H b=some (we o)/\s'.heap.get? b=some o:=λ{b} j=>by
    obtain⟨o,u',z,_⟩:=Y b j;have hfr:b∉HV outer:=λm=>by rw[l.frf b m] at z;cases z
    exact⟨o,z,J.base.keep b o (l.hok b _ z).1 (by show(if tN cl b then none else H b)=none;rw[j];rfl) hfr (B b)⟩
  have bk:∀{b:V_} {u:HO},G b=some u->CI cl H G b=some u:=λ{b u} e=>by
    show(if tN cl b then H b else G b)=_;cases qq:tN cl b with
    | false=>exact e
    | true =>
      obtain⟨p,Z,hpb⟩:=List.any_eq_true.mp qq;have this:∃x,cl.lookup x=some b:=⟨p.1,vd S.ndc (by rw[<- Xs hpb];exact Z)⟩
      obtain⟨x,hx⟩:=this;have:=J.freeC x b hx;rw[this] at e;cases e
  have bc:∀{b:V_},tN cl b=true->CI cl H G b=H b:=λ{b} j=>by show(if tN cl b then H b else G b)=_;rw[j];rfl
  have bn:∀{b:V_},tN cl b=false->CI cl H G b=G b:=λ{b} j=>by show(if tN cl b then H b else G b)=_;rw[j];rfl
  refine⟨v,CI cl H G,J.os,J.bare,⟨λb o e n T hx=>J.base.keep b o e (dn n) T (B b),λb o e n T hx=>J.base.slot b o e (dn n) T (B b),λb o e n hx=>?_,λb o e hx=>J.base.there b o e (B b),λb xs e=>bk (J.base.tups b xs (dk e λo z=>by cases z)),λb o u ny e=>?_,λb a d e=>bk (J.base.tbls b a d (dk e λo z=>by cases z))⟩,λb u e=>?_,rv,q λb u e=>bk e⟩
  · cases j:tN cl b with
    | true=>rw[bc j];exact n
    | false=>rw[bn j];exact J.base.free b o e (dn n) (B b)
  · cases j:tN cl b with
    | true=>rw[bc j];exact e
    | false =>
      rw[bn j];refine J.base.frzs b o u ny ?_;show(if tN cl b then none else H b)=_;rw[j];exact e
  · cases j:tN cl b with
    | true =>
      obtain⟨o,z,g⟩:=F j;rw[bc j,z] at e;cases e;exact⟨g,trivial,⟨_,g⟩,λ_ _ _ _=>trivial⟩
    | false =>
      rw[bn j] at e;exact(J.hok b u e).stay (λc v _ g=>g) (λc g=>bk g) (λc xs g=>bk g) λc a d g=>bk g
end HW
namespace HW
open PySem
open Sem (wp)
def Ag:Slot "function" "__getattribute__" "object.__getattribute__" :=
 .of (owner:="object") (n:="__getattribute__") (by rw[typeLookup_type,builtinLookup_eq_fast];kernel_rfl) (by decide +kernel) (by decide +kernel) (by decide +kernel)
  (by first | exact .inl (by decide +kernel) | exact .inr (by decide +kernel)) (by rw[isSubtype_type];kernel_rfl)
def SN:typeLookup (.type "function") "__class__" = pure (some (.builtin "object.__class__")):=by rw[typeLookup_type,builtinLookup_eq_fast];kernel_rfl
def PQ:isSubtype (.type "function") (.type (".".intercalate ("object.__class__".cutAt '.').dropLast))=pure true:=by
 rw[F.owner_object_class,isSubtype_type];kernel_rfl
section
variable{prog:Wr}{w:WC}{A:WM}{E:V5->V7->Prop}{h:WK}{g:Array GenState}{d:Drawn}{t:Nat}{os:OsState}{a:V_}{o:Obj}{tk:Tok}
def PR{R:Result->V7->Prop}(c:h.get? a=some o)(e:o.cls=.type "function")(f:R (.ok (.ret (.type "function"))) ⟨h,g,d,t,os⟩) :
  codeAny (model prog w) A (.call (.builtin "getset_descriptor.__get__") ⟨[.builtin "object.__class__",.ref a,.type "function"],[]⟩) R ⟨h,g,d,t,os⟩:=by
 have hT:(⟨h,g,d,t,os⟩:V7).TypeIs (.ref a) "function":=⟨_,c,e⟩
 have b:(⟨h,g,d,t,os⟩:V7).TypeIs (.builtin "object.__class__") "getset_descriptor":=F.typeOf_object_class;have i:=PQ;refine codeAny_call_builtin F.slot_gs_get.plain F.entry_gs_get (F.slot_gs_get.check _ _ _ _ _ _ _ _ b (F.args_gs_get _ _ _) ?_)
 repeat (any_goals (first | assumption | wp_step))
 refine⟨Code.quiet_builtin _ (by decide +kernel),WR F.entry_object_class ?_⟩
 repeat (any_goals (first | assumption | wp_step))
def QK(b:h.get? a=some o)(c:o.cls=.type "function")(f:Q (.done (.ret (.type "function"))) ⟨h,g,d,t,os⟩) :
  wpAny (model prog w) A (Builtin.«object.__getattribute__» ⟨[.ref a,.str "__class__" tk],[]⟩) Q E ⟨h,g,d,t,os⟩:=by
 have hT:(⟨h,g,d,t,os⟩:V7).TypeIs (.ref a) "function":=⟨_,b,c⟩
 have e:(⟨h,g,d,t,os⟩:V7).TypeIs (.builtin "object.__class__") "getset_descriptor":=F.typeOf_object_class;have l:=SN;have k:=F.typeOf_object_class;have j:=F.slot_gs_get.lookup;have i:=F.slot_gs_set.lookup
 repeat (any_goals (first | assumption | wp_step))
 refine PR b c ?_
 repeat (any_goals (first | assumption | wp_step))
def MX{R:Result->V7->Prop}(b:h.get? a=some o)(c:o.cls=.type "function")(e:R (.ok (.ret (.type "function"))) ⟨h,g,d,t,os⟩) :
  codeAny (model prog w) A (.call (.builtin "object.__getattribute__") ⟨[.ref a,.str "__class__" tk],[]⟩) R ⟨h,g,d,t,os⟩:=
 codeAny_call_builtin Ag.plain F.entry_object_getattribute (Ag.check _ _ _ _ _ _ _ _ (show(⟨h,g,d,t,os⟩:V7).TypeIs (.ref a) "function" from⟨_,b,c⟩) (F.args_object_getattribute_2 _ _) (QK b c e))
def Sm(b:h.get? a=some o)(c:o.cls=.type "function")(e:Q (.type "function") ⟨h,g,d,t,os⟩):wpAny (model prog w) A (getAttrBy (.ref a) (.str "__class__" tk) false) Q E ⟨h,g,d,t,os⟩:=by
 have hT:(⟨h,g,d,t,os⟩:V7).TypeIs (.ref a) "function":=⟨_,b,c⟩
 have i:=Ag.lookup;have f:=Ag.bind (.ref a)
 repeat (any_goals (first | assumption | wp_step))
 refine MX b c ?_
 repeat (any_goals (first | assumption | wp_step))
def Nb(b:h.get? a=some o)(c:o.cls=.type "function")(e:Q (some (.type "function")) ⟨h,g,d,t+1,os⟩):wpAny (model prog w) A (getAttr? (.ref a) "__class__") Q E ⟨h,g,d,t,os⟩:=by
 unfold getAttr? getAttrBy?
 repeat (any_goals (first | assumption | with_reducible apply Sm b c | wp_step))
def NY{K:Wb}{a:V_}:W.KitX K (.ref a) (.type "function") (W.KitAt a "function"):=W.kitx_of W.kitAt_ty (λ{_ _ _ _ _ s} p k=>by obtain⟨h,g,d,t,os⟩:=s;obtain⟨o,h1,b⟩:=p;exact Nb h1 b k)
end
structure uu where
 q:Str
 params:Arguments
 body:WG
 scope:Scope
 N:List Str
 ps:List Str
 deriving Inhabited
inductive D where
 | non
 | bl (b:Bool)
 | int (i:Int)
 | str (x:Str)
 | tup (xs:List D)
 | lst (xs:List D)
 | fro (xs:List D)
 | obj (k a:Nat) (ks:List Str) (ds:List D)
 | dct (ks:List (Int ⊕ Str)) (ds:List D)
 | dcp (ks:List (Int×Int)) (ds:List D)
 | cl (t:uu) (a:Nat) (ds:List D)
 deriving Inhabited
abbrev R:=List (V3 D)
abbrev OD:=V3 D
abbrev LD:=List D
abbrev oS(x:String):Str:=Str.ofString x
@[simp] abbrev kI (n:Int):R->OD:=λ_=>some (.int n)
@[simp] abbrev kS (x:String):R->OD:=λ_=>some (.str (oS x))
inductive Out where
 | nx (ρ:R)
 | rt (d:D)
 | bk (ρ:R)
 | ct (ρ:R)
@[simp] noncomputable def Q2:D->V3 Bool
 | .non=>some false
 | .bl b=>some b
 | .int i=>some (i != 0)
 | .str x=>if x.length<=sizeLine then some ((x.length:Int) != 0) else none
 | .tup xs=>some (!xs.isEmpty)
 | .lst xs=>some (!xs.isEmpty)
 | .fro xs=>some (!xs.isEmpty)
 | .obj ..=>none
 | .dct ..=>none
 | .dcp ..=>none
 | .cl ..=>none
noncomputable def bI(b:Bool):Int:=if b then 1 else 0
def VN:D->V3 Int
 | .int i=>some i
 | .bl b=>some (bI b)
 | _=>none
@[simp] noncomputable def nI:D->V3 Int
 | .int i=>some i
 | _=>none
@[simp] def tI:D->V3 LD
 | .tup xs=>some xs
 | _=>none
@[simp] def lI:D->V3 LD
 | .lst xs=>some xs
 | _=>none
@[simp] noncomputable def sI:D->V3 Str
 | .str x=>some x
 | _=>none
@[simp] def bO:D->V3 Bool
 | .bl b=>some b
 | _=>none
def d7(h:o.bind f=some y):∃x,o=some x/\f x=some y:=by
 cases o with
 | none=>cases h
 | some x=>exact⟨x,rfl,h⟩
def q8(h:o.map f=some y):∃x,o=some x/\f x=y:=by
 cases o with
 | none=>cases h
 | some x=>exact⟨x,rfl,Wq h⟩
@[simp] noncomputable def v9 (f:D->OD):LD->OD
 | [x]=>f x
 | _=>none
@[simp] def Cw (f:D->D->OD):LD->OD
 | [x,y]=>f x y
 | _=>none
def tX(e:v9 f l=some r):∃x,l=[x]/\f x=some r:=by
 cases l with
 | nil=>cases e
 | cons x l=>cases l with
  | nil=>exact⟨x,rfl,e⟩
  | cons=>cases e
def Ac(e:Cw f l=some r):∃x y,l=[x,y]/\f x y=some r:=by
 cases l with
 | nil=>cases e
 | cons x l=>cases l with
  | nil=>cases e
  | cons y l=>cases l with
   | nil=>exact⟨x,y,rfl,e⟩
   | cons=>cases e
def BX{i:Int}(e:nI d=some i):d=.int i:=by cases d<;>cases e;rfl
def DK(e:lI d=some i):d=.lst i:=by cases d<;>cases e;rfl
def S5(e:tI d=some i):d=.tup i:=by cases d<;>cases e;rfl
def J3(e:sI d=some i):d=.str i:=by cases d<;>cases e;rfl
def K5:LD->V3 (Int×Int)
 | [x,y]=>(nI x).bind λi=>(nI y).map λj=>(i,j)
 | _=>none
def Il(e:K5 l=some r):l=[.int r.1,.int r.2]:=by
 cases l with
 | nil=>cases e
 | cons x l=>cases l with
  | nil=>cases e
  | cons y l=>cases l with
   | nil =>
    cases x<;>try cases e
    cases y<;>cases e;rfl
   | cons=>cases e
@[simp] def n6 (x y:D):OD:=match x with
 | .int i=>(nI y).map λj=>.int (i+j)
 | .tup xs=>(tI y).bind λa=>if xs.length+a.length<=sizeLine then some (.tup (xs++a)) else none
 | .lst xs=>(lI y).bind λa=>if xs.length+a.length<=sizeLine then some (.lst (xs++a)) else none
 | .str x=>(sI y).bind λy=>if x.length+y.length<=sizeLine then some (.str (x++y)) else none
 | _=>none
@[simp] def uZ (x y:D):OD:=(nI x).bind λi=>(nI y).map λj=>.int (i - j)
def rQ(i j:Int):Bool:=(decide (-(2 ^ 64)<i)&&decide (i<2 ^ 64))||(decide (-(2 ^ 64)<j)&&decide (j<2 ^ 64))
@[simp] def wx (x y:D):OD:=(nI x).bind λi=>(nI y).bind λj=>if rQ i j then some (.int (i*j)) else none
@[simp] def uz (x y:D):OD:=(nI x).bind λi=>(nI y).bind λj=>if 0<j/\j<1073741824 then some (.int (i / j)) else none
@[simp] def rn (x y:D):OD:=(nI x).bind λi=>(nI y).bind λj=>if 0<j then some (.int (i%j)) else none
@[simp] def Tb (x:D):OD:=(nI x).map λi=>.int (-i)
@[simp] def RW (x y:D):V3 Bool:=(nI x).bind λi=>(nI y).map λj=>decide (i<j)
@[simp] def F_ (x y:D):V3 Bool:=(nI x).bind λi=>(nI y).map λj=>decide (i<=j)
@[simp] def FT (x y:D):V3 Bool:=(nI x).bind λi=>(nI y).map λj=>decide (j<i)
@[simp] def RC (x y:D):V3 Bool:=(nI x).bind λi=>(nI y).map λj=>decide (j<=i)
@[simp] def Lk (x y:D):V3 Bool:=match x with
 | .int i=>(nI y).map λj=>i==j
 | .str a=>(sI y).map λb=>a==b
 | .bl a=>(bO y).map λb=>a==b
 | _=>none
@[simp] def zo:D->D->V3 Bool:=Lk
@[simp] def EE (x y:D):V3 Bool:=(Lk x y).map (!·)
@[simp] noncomputable def M6:D->Bool
 | .non=>true
 | _=>false
@[simp] def xZ (x y:D):V3 Bool:=if M6 y then some (M6 x) else none
@[simp] def uQ (x y:D):V3 Bool:=(xZ x y).map (!·)
def flat:D->Bool
 | .non=>true
 | .bl _=>true
 | .int _=>true
 | .str _=>true
 | _=>false
def PH:D->D->Bool
 | .non,.non=>true
 | .bl a,.bl b=>a==b
 | .bl a,.int b=>bI a==b
 | .int a,.bl b=>a==bI b
 | .int a,.int b=>a==b
 | .str a,.str b=>a==b
 | _,_=>false
@[simp] def F3:D->V3 LD
 | .tup xs=>some xs
 | .lst xs=>some xs
 | .fro xs=>some xs
 | _=>none
@[simp] def S3 (x y:D):V3 Bool:=(F3 y).bind λa=>if flat x&&a.all flat then some (a.any λy=>PH y x) else none
mutual
def zB:D->D->Bool
 | .non,.non=>true
 | .bl a,.bl b=>a==b
 | .bl a,.int b=>bI a==b
 | .int a,.bl b=>a==bI b
 | .int a,.int b=>a==b
 | .str a,.str b=>a==b
 | .tup xs,.tup ys=>xM xs ys
 | .lst xs,.lst ys=>xM xs ys
 | .lst xs,.fro ys=>xM xs ys
 | .fro xs,.lst ys=>xM xs ys
 | .fro xs,.fro ys=>xM xs ys
 | _,_=>false
def xM:LD->LD->Bool
 | [],[]=>true
 | x::xs,y::ys=>zB x y&&xM xs ys
 | _,_=>false
end
mutual
def rZ:D->Nat
 | .tup xs=>rP xs+1
 | .lst xs=>rP xs+1
 | .fro xs=>rP xs+1
 | _=>0
def rP:LD->Nat
 | []=>0
 | x::xs=>max (rZ x) (rP xs)
end
mutual
def qS:D->Bool
 | .str x=>x.cps.all (·<0x110000)
 | .tup xs=>q_ xs
 | .lst xs=>q_ xs
 | .fro xs=>q_ xs
 | .obj ..=>false
 | .dct ..=>false
 | .dcp ..=>false
 | .cl ..=>false
 | _=>true
def q_:LD->Bool
 | []=>true
 | x::xs=>qS x&&q_ xs
end
mutual
def uF:D->Bool
 | .tup xs=>rW xs
 | .lst xs=>rW xs
 | .fro xs=>rW xs
 | .obj ..=>false
 | .dct ..=>false
 | .dcp ..=>false
 | .cl ..=>false
 | _=>true
def rW:LD->Bool
 | []=>true
 | x::xs=>uF x&&rW xs
end
mutual
theorem av:∀{d:D},qS d=true->uF d=true
 | .non,_=>rfl
 | .bl _,_=>rfl
 | .int _,_=>rfl
 | .str _,_=>rfl
 | .tup xs,h=>dj (xs:=xs) h
 | .lst xs,h=>dj (xs:=xs) h
 | .fro xs,h=>dj (xs:=xs) h
 | .obj ..,h=>by cases h
 | .dct ..,h=>by cases h
 | .dcp ..,h=>by cases h
 | .cl ..,h=>by cases h
theorem dj:∀{xs:LD},q_ xs=true->rW xs=true
 | [],_=>rfl
 | x::xs,h=>by
  have h':(qS x&&q_ xs)=true:=h;rw[Wj] at h';show(uF x&&rW xs)=true;rw[av h'.1,dj h'.2];rfl
end
def EG(x y:D):V3 Bool:=if rZ x<=100/\qS x=true/\qS y=true then some (zB x y) else none
def uq(x y:D):V3 Bool:=(EG x y).map (!·)
noncomputable def Ry(n:Nat)(i:Int):V3 Nat:=if 0<=i then (if i<n then some i.toNat else none) else if -(n:Int)<=i then some (i+n).toNat else none
def C9(xs:LD)(i:Int):OD:=(Ry xs.length i).bind λj=>xs[j]?
@[simp] def e8:D->D->OD
 | .tup xs,.int i=>C9 xs i
 | .lst xs,.int i=>C9 xs i
 | .fro xs,.int i=>C9 xs i
 | .str x,.int i=>if x.length<=sizeLine then ((Ry x.length i).bind λj=>x.cps.toList[j]?).map λc=>.str ⟨#[c]⟩ else none
 | _,_=>none
noncomputable def KP(n d:Nat):V3 Int->Nat
 | none=>d
 | some v=>if v<0 then (v+(n:Int)).toNat else min v.toNat n
def cutD(xs:LD)(a b:V3 Int):LD:=(xs.drop (KP xs.length 0 a)).take (KP xs.length xs.length b - KP xs.length 0 a)
@[simp] def Vg:D->V3 Int->V3 Int->OD
 | .tup xs,lo,hi=>some (.tup (cutD xs lo hi))
 | .lst xs,lo,hi=>some (.lst (cutD xs lo hi))
 | _,_,_=>none
@[simp] def Vr:D->V3 (V3 Int)
 | .int i=>some (some i)
 | _=>none
@[simp] noncomputable def Nu:D->String
 | .non=>"NoneType"
 | .bl _=>"bool"
 | .int _=>"int"
 | .str _=>"str"
 | .tup _=>"tuple"
 | .lst _=>"list"
 | .fro _=>"list"
 | .obj ..=>"object"
 | .dct ..=>"dict"
 | .dcp ..=>"dict"
 | .cl ..=>"function"
@[simp] def Ny:D->Bool
 | .obj ..=>true
 | _=>false
@[simp] def Pd (d:D) (n:String):Bool:=decide (Nu d=n)||(decide (Nu d = "bool")&&decide (n = "int"))
@[simp] def rY (l:LD):OD:=v9 (λd=>(F3 d).map λxs=>.int xs.length) l
@[simp] def Uh:D->V3 LD
 | .tup xs=>some xs
 | .lst xs=>some xs
 | _=>none
@[simp] def tu (l:LD):OD:=v9 (λx=>(Uh x).map .tup) l
@[simp] def Dx (l:LD):OD:=v9 (λx=>(nI x).bind λi=>if i.natAbs.log2<1920 then some (.str (toString i)) else none) l
@[simp] def DY (l:LD):OD:=Cw (λx y=>(nI x).bind λi=>(nI y).map λj=>.int (if j > i then j else i)) l
@[simp] def Uq:D->V3 Int
 | .int i=>some i
 | .bl b=>some (if b then 1 else 0)
 | _=>none
@[simp] def IN (l:LD):OD:=v9 (λx=>(Uq x).map .int) l
@[simp] def UG:LD->OD
 | []=>some .non
 | [x]=>(nI x).map .int
 | [x,y]=>(nI x).bind λa=>(nI y).map λb=>.int (if b > a then b else a)
 | _=>none
@[simp] def Cq (l:LD):OD:=v9 (λx=>(lI x).bind UG) l
noncomputable def Hl(x:Str):V3 Str:=if x=oS "a" then some (oS "A") else if x=oS "b" then some (oS "B") else if x=oS "c" then some (oS "C") else none
def Tz:D->OD
 | .str x=>(Hl x).map .str
 | _=>none
def Lc(ws:List Str):D->OD
 | .str x=>(ws.findIdx? (·==x)).map λ(j:Nat)=>.int (j:Int)
 | _=>none
def bools:LD->V3 (List Bool)
 | []=>some []
 | .bl b::r=>(bools r).map (b::·)
 | _=>none
@[simp] def Jl (l:LD):OD:=v9 (λx=>(lI x).bind λxs=>(bools xs).map λbs=>.bl (bs.all id)) l
noncomputable def xE(st:D->R->V3 R)(body:R->V3 Out):LD->R->V3 Out
 | [],ρ=>some (.nx ρ)
 | d::ds,ρ=>(st d ρ).bind λρ1=>(body ρ1).bind λo=>match o with
  | .nx ρ2=>xE st body ds ρ2
  | .ct ρ2=>xE st body ds ρ2
  | .bk ρ2=>some (.nx ρ2)
  | .rt r=>some (.rt r)
noncomputable def rh(st:D->R->V3 R)(c:R->V3 Bool)(e:R->OD):LD->R->V3 LD
 | [],_=>some []
 | d::ds,ρ=>(st d ρ).bind λρ1=>(c ρ1).bind λb=>(if b then (e ρ1).map some else some none).bind λx =>
   (rh st c e ds ρ).map λr=>match x with
    | some y=>y::r
    | none=>r
@[simp] def i4 (f g:R->V3 Out):R->V3 Out:=λρ=>(f ρ).bind λo=>match o with
 | .nx ρ2=>g ρ2
 | o=>some o
@[simp] noncomputable def b9 (i:Nat) (ρ:R):OD:=ρ.getD i none
@[simp] def setAt (i:Nat) (d:D) (ρ:R):V3 R:=if i<ρ.length then some (ρ.set i (some d)) else none
@[simp] def uG (c:R->V3 Bool) (f g:R->V3 Out):R->V3 Out:=λρ=>(c ρ).bind λb=>if b then f ρ else g ρ
@[simp] def vy (f g:R->OD):R->OD:=λρ=>(f ρ).bind λx=>match x with
 | .bl true=>g ρ
 | .bl false=>some (.bl false)
 | _=>none
@[simp] def EZ (f:R->OD):R->OD:=λρ=>(f ρ).bind λx=>match x with
 | .bl b=>some (.bl !b)
 | _=>none
@[simp] def BQ (f g:R->V3 Bool):R->V3 Bool:=λρ=>(f ρ).bind λb=>if b then g ρ else some false
@[simp] def Jo (f g:R->V3 Bool):R->V3 Bool:=λρ=>(f ρ).bind λb=>if b then some true else g ρ
@[simp] def yn (f:R->V3 Bool):R->V3 Bool:=λρ=>(f ρ).map (!·)
@[simp] def Ha (c:R->V3 Bool) (f g:R->OD):R->OD:=λρ=>(c ρ).bind λb=>if b then f ρ else g ρ
@[simp] def d6 (F:D->D->OD) (f g:R->OD):R->OD:=λρ=>(f ρ).bind λx=>(g ρ).bind λy=>F x y
@[simp] def NV (F:D->OD) (f:R->OD):R->OD:=λρ=>(f ρ).bind F
@[simp] def i9 (F:D->D->V3 Bool) (f g:R->OD):R->V3 Bool:=λρ=>(f ρ).bind λx=>(g ρ).bind λy=>F x y
@[simp] def Oj (F G:D->D->V3 Bool) (f g h:R->OD):R->V3 Bool:=λρ=>(f ρ).bind λx=>(g ρ).bind λy=>(F x y).bind λb=>if b then (h ρ).bind λz=>G y z else some false
@[simp] def zJ (f:R->V3 Bool):R->OD:=λρ=>(f ρ).map .bl
@[simp] def tQ (f:R->OD):R->V3 Bool:=λρ=>(f ρ).bind Q2
@[simp] def Qq (n:String) (f:R->OD):R->OD:=λρ=>(f ρ).bind λd=>if Ny d then none else some (.bl (Pd d n))
@[simp] def d4:R->V3 LD:=λ_=>some []
@[simp] def b8 (f:R->OD) (g:R->V3 LD):R->V3 LD:=λρ=>(f ρ).bind λd=>(g ρ).map λds=>d::ds
@[simp] def d3 (F:LD->OD) (g:R->V3 LD):R->OD:=λρ=>(g ρ).bind F
@[simp] def l9 (g:R->V3 LD):R->OD:=λρ=>(g ρ).map .tup
@[simp] def x3 (g:R->V3 LD):R->OD:=λρ=>(g ρ).map .lst
@[simp] def MQ:R->V3 (V3 Int):=λ_=>some none
@[simp] def aP (f:R->OD):R->V3 (V3 Int):=λρ=>(f ρ).bind Vr
@[simp] def Jp (f:R->OD) (l h:R->V3 (V3 Int)):R->OD:=λρ=>(f ρ).bind λx=>(l ρ).bind λa=>(h ρ).bind λb=>Vg x a b
@[simp] def i5 (f:R->OD):R->V3 Out:=λρ=>(f ρ).map .rt
@[simp] def i7 (f:R->OD) (st:D->R->V3 R):R->V3 Out:=λρ=>(f ρ).bind λd=>(st d ρ).map .nx
@[simp] def qZ:R->V3 Out:=λρ=>some (.nx ρ)
@[simp] def yh (it:R->V3 LD) (st:D->R->V3 R) (body:R->V3 Out):R->V3 Out:=λρ=>(it ρ).bind λds=>xE st body ds ρ
noncomputable def chars(x:Str):LD:=x.cps.toList.map λc=>.str ⟨#[c]⟩
@[simp] def qU (f:R->OD):R->V3 LD:=λρ=>(f ρ).bind λd=>match d with
 | .tup xs=>some xs
 | .lst xs=>some xs
 | .str x=>if x.cps.all (·<128) then some (chars x) else none
 | _=>none
noncomputable def sa(a b:Int):LD:=(List.range (b - a).toNat).map λ(k:Nat)=>D.int (a+(k:Int))
@[simp] def rj (f:R->OD):R->V3 LD:=λρ=>(f ρ).bind λd=>match d with
 | .int j=>if -(2 ^ 62)<=j/\j<2 ^ 62 then some (sa 0 j) else none
 | _=>none
def uh(k:Nat)(it:R->V3 LD)(st:D->R->V3 R)(c:R->V3 Bool)(e:R->OD):R->OD:=λρ =>
 (it ρ).bind λds=>if ds.length<=sizeLine then (rh st c e ds (List.replicate k none++ρ)).map .lst else none
@[simp] def rF:R->V3 Bool:=λ_=>some true
@[simp] def AM (n:Nat) (ds:LD):R:=ds.map some++List.replicate (n - ds.length) none
@[simp] def rm:V3 Out->OD
 | some (.rt d)=>some d
 | some (.nx _)=>some .non
 | _=>none
@[simp] noncomputable def Fk:List (D->R->V3 R)->LD->R->V3 R
 | [],[],ρ=>some ρ
 | f::fs,d::ds,ρ=>(f d ρ).bind λρ1=>Fk fs ds ρ1
 | _,_,_=>none
@[simp] def zL (a:List (D->R->V3 R)):D->R->V3 R
 | .tup ds,ρ=>Fk a ds ρ
 | _,_=>none
@[simp] def xa (u:R->V3 Out):R->LD->V3 (Out×LD):=λρ ds=>(u ρ).map λo=>(o,ds)
@[simp] def Au (i:Nat) (f:R->OD):R->LD->V3 (Out×LD):=λρ ds=>(f ρ).bind λd=>if ρ.length=i/\ds.length<sizeLine then some (.nx ρ,ds++[d]) else none
@[simp] def y8 (i:Nat) (f:R->OD):R->LD->V3 (Out×LD):=λρ ds=>(f ρ).bind λd=>match d with
 | .lst es=>if ρ.length=i/\ds.length+es.length<=sizeLine then some (.nx ρ,ds++es) else none
 | _=>none
@[simp] def zr:R->LD->V3 (Out×LD):=λρ ds=>some (.nx ρ,ds)
@[simp] def BM (p q:R->LD->V3 (Out×LD)):R->LD->V3 (Out×LD):=λρ ds=>(p ρ ds).bind λr=>match r with
 | (.nx ρ2,ds2)=>q ρ2 ds2
 | r=>some r
@[simp] def MM (c:R->V3 Bool) (p q:R->LD->V3 (Out×LD)):R->LD->V3 (Out×LD):=λρ ds=>(c ρ).bind λb=>if b then p ρ ds else q ρ ds
noncomputable def wX(st:D->R->V3 R)(p:R->LD->V3 (Out×LD)):LD->R->LD->V3 (Out×LD)
 | [],ρ,ds=>some (.nx ρ,ds)
 | d::es,ρ,ds=>(st d ρ).bind λρ1=>(p ρ1 ds).bind λr=>match r with
  | (.nx ρ2,ds2)=>wX st p es ρ2 ds2
  | (.ct ρ2,ds2)=>wX st p es ρ2 ds2
  | (.bk ρ2,ds2)=>some (.nx ρ2,ds2)
  | r=>some r
@[simp] def A3 (it:R->V3 LD) (st:D->R->V3 R) (p:R->LD->V3 (Out×LD)):R->LD->V3 (Out×LD):=λρ ds=>(it ρ).bind λes=>wX st p es ρ ds
@[simp] def Ft (i:Nat) (F:R->V3 LD) (q:R->LD->V3 Out):R->V3 Out:=λρ=>(F ρ).bind λds=>if ρ.length=i+1 then q (ρ.take i) ds else none
@[simp] def uj (p:R->LD->V3 (Out×LD)) (q:R->LD->V3 Out):R->LD->V3 Out:=λρ ds=>(p ρ ds).bind λr=>match r with
 | (.nx ρ2,ds2)=>q ρ2 ds2
 | (.rt d,_)=>some (.rt d)
 | _=>none
@[simp] def wn (w:R->V3 Out):R->LD->V3 Out:=λρ ds=>w (ρ++[some (.lst ds)])
def RO(i:Nat)(a:List (Str×(LD->OD)))(f:R->OD)(g:(LD->OD)->R->V3 Out):R->V3 Out:=λρ=>(f ρ).bind λd=>match d with
 | .str z=>(a.lookup z).bind λF=>if i<ρ.length then g F (ρ.set i none) else none
 | _=>none
theorem y_(f:D->D):∀{ds:LD},(∀d∈ds,∃ ρ1,st d ρ=some ρ1/\e ρ1=some (f d))->rh st rF e ds ρ=some (ds.map f)
 | [],_=>rfl
 | d::ds,h=>by
  obtain⟨ρ1,h1,c⟩:=h d Ws;have a:=y_ f λx b=>h x (Wt _ b)
  simp[rh,h1,c,a]
theorem x4(p:D->Bool)(f:D->D):∀{ds:LD},(∀d∈ds,∃ ρ1,st d ρ=some ρ1/\c ρ1=some (p d)/\(p d=true->e ρ1=some (f d)))->rh st c e ds ρ=some ((ds.filter p).map f)
 | [],_=>rfl
 | d::ds,h=>by
  obtain⟨ρ1,h1,g,j⟩:=h d Ws;have b:=x4 p f λx i=>h x (Wt _ i)
  cases a:p d with
  | true=>simp[rh,h1,g,a,j a,b]
  | false=>simp[rh,h1,g,a,b]
def via(k n:Nat)(g:R->V3 Out)(ds:LD):OD:=if ds.length=k then rm (g (AM n ds)) else none
def cK{k n:Nat}(h:via k n g ds=some d):ds.length=k:=by
 unfold via at h;split at h
 ·assumption
 ·cases h
def fS{k n:Nat}(h:via k n g ds=some d):rm (g (AM n ds))=some d:=by
 unfold via at h;split at h
 ·exact h
 ·cases h
def CH{i j:Int}(h1 : -(2 ^ 64)<j)(a:j<2 ^ 64):rQ i j=true:=by unfold rQ;rw[WP h1,WP a];simp
def tO{i j:Int}(h1 : -(2 ^ 64)<i)(a:i<2 ^ 64):rQ i j=true:=by unfold rQ;rw[WP h1,WP a];simp
theorem A_(P:Nat->R->Prop):∀(ds:LD) (k:Nat) (a:R),P k a->(∀i d ρ,ds[i]?=some d->P (k+i) ρ->∃ ρ1 ρ2,st d ρ=some ρ1/\body ρ1=some (.nx ρ2)/\P (k+i+1) ρ2) ->
  ∃ ρ',xE st body ds a=some (.nx ρ')/\P (k+ds.length) ρ'
 | [],k,a,h0,_=>⟨a,rfl,h0⟩
 | d::ds,k,a,h0,hs=>by
  obtain⟨ρ1,ρ2,h1,g,f⟩:=hs 0 d a rfl h0
  obtain⟨ρ',c,b⟩:=A_ P ds (k+1) ρ2 f λi d' ρ e p=>by
   have q:=hs (i+1) d' ρ (by simpa using e) (by rw[show k+(i+1)=k+1+i by omega];exact p);rw[show k+(i+1)+1=k+1+i+1 by omega] at q;exact q
  refine⟨ρ',?_,?_⟩
  ·simp[xE,h1,g,c]
  ·rw[show k+(d::ds).length=k+1+ds.length by simp;omega];exact b
def gX{n:Int}{i:Nat}(e:(sa 0 n)[i]?=some d):d=.int i/\(i:Int)<n:=by
 unfold sa at e;rw[Wg] at e;cases q:(List.range (n - 0).toNat)[i]? with
 | none=>rw[q] at e;cases e
 | some k =>
  rw[q] at e;obtain⟨h1,a⟩:=Wm.mp q;simp at h1 a;subst a;have b:D.int (0+(i:Int))=d:=Wq e;rw[Xu] at b;exact⟨b.symm,by omega⟩
def eQ(n:Int):(sa 0 n).length=n.toNat:=by simp[sa]
def xU{i:Int}(h0:0<=i)(h1:i<xs.length):∃x,x∈xs/\C9 xs i=some x:=by
 have a:i.toNat<xs.length:=by omega
 refine⟨xs[i.toNat],List.getElem_mem a,?_⟩;unfold C9 Ry;rw[Wc h0,Wc h1];simp[a]
inductive Fits:D->Prop
 | non:Fits .non
 | bl (b:Bool):Fits (.bl b)
 | int (i:Int):Fits (.int i)
 | str (x:Str):Fits (.str x)
 | tup {xs:LD}:xs.length<=1000->(∀x∈xs,Fits x)->Fits (.tup xs)
end HW
namespace HW
open PySem PySem.Spec PyProof.Rows L2
def Uo(x:Str):It:=⟨λi _=>i<x.cps.size,λi H v a=>a=H/\∃c,x.cps[i]?=some c/\v=.str ⟨#[c]⟩,λi _=>x.cps.size<=i⟩
def Ly{K:Wb}(it:V_)(x:Str)(t:Tok):Turn P w K tg (Uo x) [it] it (λi h=>h.IsStrIter it "str_ascii_iterator" x t i) where
 mem:=by simp
 obj:=λi h st b g=>by
  have e:b=it:=by simpa using g
  subst e;obtain⟨o,e,c,d⟩:=st;exact⟨o,e,λv z=>by rw[d] at z;cases z⟩
 keep:=λi h h' st k=>by
  obtain⟨o,e,r⟩:=st;exact⟨o,k it (by simp) o e,r⟩
 item:=by
  intro X p m q F i a s C H E I l st n;subst p m q;have f:i<x.cps.size:=n;obtain⟨f0,B,J,A,y,u⟩:=l it (by simp);refine wpAny_pyNext_ascii_item st (c:=x.cps[i]) (by simp[f]) λh' j G=>?_
  have M:L2.Inv X a C H {s with heap:=h',toks:=s.toks+1}:=I.turned (t':=s.toks+1) (λb o g e=>(G.2 b g).trans e) f0 B A y u;obtain⟨o,e,c,d⟩:=id j;exact⟨_,rfl,Fq (s:={s with heap:=h',toks:=s.toks+1}) e c d (by decide) ⟨.str ⟨#[x.cps[i]]⟩,H,M,⟨_,rfl⟩,⟨rfl,_,by simp[f],rfl⟩,j,λb g=>(l b g).1⟩⟩
 done:=by
  intro X p m q F i a s C H E I l st n;subst p m q;have f:x.cps.size<=i:=n;obtain⟨f0,B,J,A,y,u⟩:=l it (by simp);exact wpAny_pyNext_ascii_end (I.ok.hd F) st (by simp;omega) λh' L=>⟨rfl,I.turned (t':=s.toks) (λb o g e=>L b o g e) f0 B A y u⟩
 self:=λ_ _ _ _ _ st h=>wpAny_pyIter_striter_ascii st h
def FU:List ((Int×Int)×V_×V)->List (List Key×V_×V5)->Prop:=Paired λp q=>q.1=[.inl p.1.1,.inl p.1.2]/\q.2.1=p.2.1/\RelV p.2.2 q.2.2
def Lp(P:Wr)(w:WC)(o:Obj)(xs:List ((Int×Int)×V_×V)):Prop:=xs.length<=sizeLine/\∃a es b,FU xs a/\o.ExactDict/\o.data=.dict es b/\es.toList=a.map (entryOfKey (tupleKind (l7 P w)))/\(a.map (·.1)).Nodup
def RU(P b:Wr)(w a:WC)(i j:Int):tupleKeyHash (l7 P w) [.inl i,.inl j]=tupleKeyHash (l7 b a) [.inl i,.inl j]:=by
 unfold tupleKeyHash;have h:∀i:Int,(l7 P w).hash (.inl i)=(l7 b a).hash (.inl i):=λ_=>rfl
 simp only[Ww,List.map_nil,h]
def L0(k:List Key)(a:V_)(v:V5):entryOfKey (tupleKind (l7 prog w)) (k,a,v)=⟨tupleKeyHash (l7 prog w) k,.ref a,v⟩:=rfl
def FU.entries(P f:Wr)(w d:WC)(h:FU xs c):c.map (entryOfKey (tupleKind (l7 P w)))=c.map (entryOfKey (tupleKind (l7 f d))):=by
 refine List.map_congr_left λq b=>?_
 have:∃i j,q.1=[.inl i,.inl j]:=by
  induction h with
  | nil=>cases b
  | cons e t ih =>
   rcases Wo.mp b with rfl | b
   ·exact⟨_,_,e.1⟩
   ·exact ih b
 obtain⟨i,j,e⟩:=this;obtain⟨k,a,v⟩:=q;cases (show k=_ from e);rw[L0,L0,RU P f w d]
def Lp.any(h:Lp P w o xs)(b:Wr)(a:WC):Lp b a o xs:=by
 obtain⟨z,c,es,i,h1,g,f,e,d⟩:=h;exact⟨z,c,es,i,h1,g,f,by rw[e];exact FU.entries P b w a h1,d⟩
def w_(K:Wb)(H:Hp):List (Int×Int)->List V_->Prop
 | [],as=>as=[]
 | k::ks,as=>∃a r,as=a::r/\tS K H a [.int k.1,.int k.2]/\w_ K H ks r
def Nn(K:Wb)(H:Hp)(a:V_)(ks:List (Int×Int))(b:List V_)(xs:List V):Prop:=((a==sysModules)=false/\w_ K H ks b/\b.length=xs.length)/\∃o P w,H a=some (.frz o (.own 0))/\Lp P w o (ks.zip (b.zip xs))
theorem w_.to{K:Wb}(s:∀a xs,tS K H a xs->tS K c a xs):∀{ks:List (Int×Int)} {b:List V_},w_ K H ks b->w_ K c ks b
 | [],_,h=>h
 | k::ks,_,h=>by
  obtain⟨a,r,e,q,t⟩:=h;exact⟨a,r,e,s _ _ q,w_.to s t⟩
theorem Nn.to{K:Wb}(h:Nn K H a ks b xs)(s:∀a xs,tS K H a xs->tS K c a xs)(s2:∀o u,H a=some (.frz o u)->c a=some (.frz o u)):Nn K c a ks b xs:=by
 obtain⟨⟨h1,g,f⟩,o,P,w,e,d⟩:=h;exact⟨⟨h1,g.to s,f⟩,o,P,w,s2 _ _ e,d⟩
mutual
def Rep(K:Wb)(H:Hp):D->V->Prop
 | .non,v=>v=.non
 | .bl b,v=>v=.bl b
 | .int i,v=>v=.int i
 | .str x,v=>v=.str x
 | .tup ds,v=>∃a xs,v=.ref a/\tS K H a xs/\g7 K H ds xs
 | .lst ds,v=>∃a xs,v=.ref a/\H a=some (.lst xs)/\g7 K H ds xs
 | .fro ds,v=>∃a xs,v=.ref a/\uI K H a xs/\g7 K H ds xs
 | .obj k a ks ds,v=>v=.ref a
 | .cl t a ds,v=>v=.ref a/\∃cl xs pm ctv c',H a=some (we (W.kla_obj "<lambda>" t.q t.params t.body t.scope cl pm c' ctv))/\H c'=some (.tbl t.q true)/\vi t.N t.ps t.scope cl/\xF H t.N t.ps cl xs/\g7 K H ds xs
 | .dct ks ds,v=>∃a xs,v=.ref a/\(ks.length=xs.length/\∃o,H a=some (.frz o (.dK (ks.zip xs))))/\g7 K H ds xs
 | .dcp ks ds,v=>∃a c xs,v=.ref a/\Nn K H a ks c xs/\g7 K H ds xs
def g7(K:Wb)(H:Hp):LD->List V->Prop
 | [],vs=>vs=[]
 | d::ds,vs=>∃v r,vs=v::r/\Rep K H d v/\g7 K H ds r
end
def KQ{K:Wb}(e:g6 H b)(h:tS K H a xs):tS K b a xs:=by
 rcases h with (h | ⟨o,h⟩) | h
 ·exact .inl (.inl (e _ _ h))
 ·exact .inl (.inr ⟨o,e _ _ h⟩)
 ·exact .inr h
mutual
theorem Rep.mono{K:Wb}(s:g6 H f):∀{d:D} {v:V},Rep K H d v->Rep K f d v
 | .non,_,h=>h
 | .bl _,_,h=>h
 | .int _,_,h=>h
 | .str _,_,h=>h
 | .tup ds,_,h=>by
  obtain⟨a,xs,e,q,r⟩:=h;exact⟨a,xs,e,KQ s q,g7.mono s r⟩
 | .lst ds,_,h=>by
  obtain⟨a,xs,e,q,r⟩:=h;exact⟨a,xs,e,s _ _ q,g7.mono s r⟩
 | .fro ds,_,h=>by
  obtain⟨a,xs,e,q,r⟩:=h;exact⟨a,xs,e,s.seq q,g7.mono s r⟩
 | .obj ..,_,h=>h
 | .dct ks ds,_,h=>by
  obtain⟨a,xs,e,q,r⟩:=h;exact⟨a,xs,e,⟨q.1,let ⟨o,z⟩:=q.2;⟨o,s _ _ z⟩⟩,g7.mono s r⟩
 | .dcp ks ds,_,h=>by
  obtain⟨a,c,xs,e,q,r⟩:=h;exact⟨a,c,xs,e,q.to (λ_ _=>KQ s) λo u z=>s _ _ z,g7.mono s r⟩
 | .cl t a ds,_,h=>by
  obtain⟨e,cl,xs,pm,ctv,c',h1,j,i,g,r⟩:=h;exact⟨e,cl,xs,pm,ctv,c',s _ _ h1,s _ _ j,i,g.to λb o z=>s _ _ z,g7.mono s r⟩
theorem g7.mono{K:Wb}(s:g6 H b):∀{ds:LD} {a:List V},g7 K H ds a->g7 K b ds a
 | [],_,h=>h
 | d::ds,_,h=>by
  obtain⟨v,r,e,q,t⟩:=h;exact⟨v,r,e,Rep.mono s q,g7.mono s t⟩
end
section
variable{K:Wb}{H:Hp}
theorem g7.length:∀{ds:LD} {a:List V},g7 K H ds a->ds.length=a.length
 | [],_,h=>by cases (show _=[] from h);rfl
 | d::ds,_,h=>by
  obtain⟨v,r,e,q,t⟩:=h;subst e;simp[g7.length t]
theorem g7.get:∀{ds:LD} {b:List V} {i:Nat} {d:D},g7 K H ds b->ds[i]?=some d->∃v,b[i]?=some v/\Rep K H d v
 | [],_,_,_,_,e=>by simp at e
 | d::ds,_,0,_,h,e=>by
  obtain⟨v,r,a,q,t⟩:=h;subst a;simp at e;subst e;exact⟨v,by simp,q⟩
 | d::ds,_,i+1,_,h,e=>by
  obtain⟨v,r,a,q,t⟩:=h;subst a;obtain⟨u,h1,c⟩:=g7.get (i:=i) t (by simpa using e);exact⟨u,by simpa using h1,c⟩
theorem g7.append:∀{ds es:LD} {a us:List V},g7 K H ds a->g7 K H es us->g7 K H (ds++es) (a++us)
 | [],_,_,_,h,t=>by cases (show _=[] from h);exact t
 | d::ds,_,_,_,h,t=>by
  obtain⟨v,r,b,q,t'⟩:=h;subst b;exact⟨v,_,rfl,q,g7.append t' t⟩
theorem g7.drop:∀(n:Nat) {ds:LD} {a:List V},g7 K H ds a->g7 K H (ds.drop n) (a.drop n)
 | 0,_,_,h=>by simpa using h
 | n+1,[],_,h=>by cases (show _=[] from h);exact rfl
 | n+1,d::ds,_,h=>by
  obtain⟨v,r,b,q,t'⟩:=h;subst b;simpa using g7.drop n t'
theorem g7.take:∀(n:Nat) {ds:LD} {a:List V},g7 K H ds a->g7 K H (ds.take n) (a.take n)
 | 0,_,_,h=>by simp only[List.take_zero];exact rfl
 | n+1,[],_,h=>by cases (show _=[] from h);exact rfl
 | n+1,d::ds,_,h=>by
  obtain⟨v,r,b,q,t'⟩:=h;subst b;rw[List.take_succ_cons,List.take_succ_cons];exact⟨v,_,rfl,q,g7.take n t'⟩
def g7.one(h:Rep K H d v):g7 K H [d] [v]:=⟨v,[],rfl,h,rfl⟩
def g7.cons(h:Rep K H d v)(t:g7 K H ds a):g7 K H (d::ds) (v::a):=⟨v,a,rfl,h,t⟩
theorem g7.reverse:∀{ds:LD} {a:List V},g7 K H ds a->g7 K H ds.reverse a.reverse
 | [],_,h=>by cases (show _=[] from h);exact rfl
 | d::ds,_,h=>by
  obtain⟨v,r,b,q,t'⟩:=h;subst b;rw[List.reverse_cons,List.reverse_cons];exact g7.append (g7.reverse t') (g7.one q)
theorem g7.rep(h:g7 K H ds a):∀n:Nat,g7 K H (List.replicate n ds).flatten (List.replicate n a).flatten
 | 0=>rfl
 | n+1=>by
  rw[List.replicate_succ,List.replicate_succ,List.flatten_cons,List.flatten_cons];exact h.append (g7.rep h n)
def sh(K:Wb)(H:Hp)(ρ:R)(a:L2.St):Prop:=ρ.length<=a.length/\∀(i:Nat) (d:D),ρ[i]?=some (some d)->∃v,a[i]?=some (some v)/\Rep K H d v
theorem sh.mono(e:sh K H ρ c)(s:g6 H f):sh K f ρ c:=⟨e.1,λi d h=>let ⟨v,a,b⟩:=e.2 i d h;⟨v,a,b.mono s⟩⟩
theorem sh.at(e:sh K H ρ a){i:Nat}(h:b9 i ρ=some d):∃v,a[i]?=some (some v)/\Rep K H d v:=by
 refine e.2 i d ?_;unfold b9 at h;rw[Wn] at h;cases q:ρ[i]? with
 | none=>rw[q] at h;cases h
 | some o=>rw[q] at h;cases (show o=some d from h);rfl
theorem sh.set(e:sh K H ρ b){i:Nat}(r:Rep K H d v):sh K H (ρ.set i (some d)) (b.set i (some v)):=by
 refine⟨by simpa using e.1,λj c h=>?_⟩;by_cases f:i=j
 ·subst f
  by_cases a:i<ρ.length
  ·rw[Xl a] at h
   cases h;exact⟨v,by rw[Xl (Wv a e.1)],r⟩
  ·rw[W8 (by simpa using a)] at h
   cases h
 ·rw[W7 f] at h ⊢
  exact e.2 j c h
def sh.front(e:sh K H ρ c)(k:Nat)(a:L2.St)(f:a.length=k):sh K H (List.replicate k none++ρ) (a++c):=by
 subst f;refine⟨by simpa using e.1,λi d h=>?_⟩;by_cases b:i<a.length
 ·rw[WV (by simpa using b),List.getElem?_replicate] at h
  split at h<;>cases h
 ·rw[WI (by simpa using b),List.length_replicate] at h
  rw[WI (by simpa using b)];exact e.2 _ d h
end
def r_(K:Wb)(H:Hp)(ρ:R)(b:L2.St)(a:L2.St):Prop:=sh K H ρ a/\a.drop ρ.length=b
def sh.t{K:Wb}(e:sh K H ρ a):r_ K H ρ (a.drop ρ.length) a:=⟨e,rfl⟩
theorem r_.mono{K:Wb}(e:r_ K H ρ a b)(s:g6 H c):r_ K c ρ a b:=⟨e.1.mono s,e.2⟩
theorem r_.set{K:Wb}(e:r_ K H ρ a b){i:Nat}(c:i<ρ.length)(r:Rep K H d v):r_ K H (ρ.set i (some d)) a (b.set i (some v)):=by
 refine⟨e.1.set r,?_⟩;rw[Xc,List.drop_set_of_lt c];exact e.2
section
variable(K:Wb)
def tD(f:R->OD):TE:=λb H Q=>∃ ρ d,sh K H ρ b/\f ρ=some d/\∀v a,g6 H a->Rep K a d v->Q v a
def Rx(f:R->V3 Bool):TT:=λc H Q=>∃ ρ b,sh K H ρ c/\f ρ=some b/\∀a,g6 H a->Q b a
def Vf(f:R->V3 LD):TA:=λc H Q=>∃ ρ ds,sh K H ρ c/\f ρ=some ds/\∀b a,g6 H a->g7 K a ds b->Q b a
def VS(f:R->V3 (V3 Int)):TO:=λb H Q=>∃ ρ o,sh K H ρ b/\f ρ=some o/\∀a,g6 H a->Q o a
def fin(E:Ends)(c:L2.St)(o:Out)(b:Hp):Prop:=
 match o with
 | .nx ρ=>∀ a,r_ K b ρ c a->E.nx a b
 | .rt d=>∀v,Rep K b d v->E.rt v b
 | .bk ρ=>∀ a,r_ K b ρ c a->E.bk a b
 | .ct ρ=>∀ a,r_ K b ρ c a->E.ct a b
def Rf(f:R->V3 Out):TS:=λE c H=>∃ ρ a o,r_ K H ρ a c/\f ρ=some o/\∀b,g6 H b->fin K E a o b
def Vw(st:D->R->V3 R):TG:=λv e H Q=>∃ ρ c d ρ',r_ K H ρ c e/\Rep K H d v/\st d ρ=some ρ'/\∀ a b,g6 H b->r_ K b ρ' c a->Q a b
def T2(b:List (D->R->V3 R)):MW:=λf e H Q=>∃ ρ d ds ρ',r_ K H ρ d e/\g7 K H ds f/\Fk b ds ρ=some ρ'/\∀ a c,g6 H c->r_ K c ρ' d a->Q a c
def Kp(H c:Hp):Prop:=∀b u,H b=some u->(∀ a,u≠.ext a)->c b=some u
def v6(J:It)(ds:LD)(H:Hp):Prop:=
 (∀(i:Nat) (d:D) (a:Hp),Kp H a->ds[i]?=some d->J.go i a/\∀x b,J.yld i a x b->g6 a b/\Rep K b d x)/\∀(i:Nat) (a:Hp),Kp H a->ds.length<=i->J.stop i a
def Vs(f:R->V3 LD):TI:=λb H W=>∃ ρ ds,sh K H ρ b/\f ρ=some ds/\∀J a,g6 H a->v6 K J ds a->W J a
def NT(F:LD->OD):Sp:=λb H Q _=>∃ds d,g7 K H ds b/\F ds=some d/\∀v a,g6 H a->Rep K a d v->Q v a
end
def SE(X:Cx)(e:WG)(f:R->OD):Prop:=PE X e (tD X.K f)
def ST(X:Cx)(e:WG)(f:R->V3 Bool):Prop:=PT X e (Rx X.K f)
def SW(X:Cx)(e:WG)(f:R->V3 Bool):Prop:=PW X e (Rx X.K f)
def noStar:WG->Bool
 | .Starred _ _=>false
 | _=>true
def ad(es:List WG)(env:Env)(h:noStar e=true):starEach (e::es) env=(false,eval e env)::starEach es env:=by
 cases e<;>first | rfl | cases h
theorem aM:∀{es:List WG},es.all noStar=true->(backTo pos (starEach es env)).any (·.1)=false
 | [],_=>rfl
 | e::es,h=>by
  rw[W9,Wj] at h;rw[ad es env h.1];show(false||(backTo pos (starEach es env)).any (·.1))=false;rw[aM h.2];rfl
def SA(X:Cx)(es:List WG)(f:R->V3 LD):Prop:=PA X es (Vf X.K f)/\(∀ ρ ds,f ρ=some ds->ds.length=es.length)/\es.all noStar=true
def SO(X:Cx)(e:V3 WG)(f:R->V3 (V3 Int)):Prop:=PO X e (VS X.K f)
def S1(X:Cx)(s:Xi)(f:R->V3 Out):Prop:=PS X s (Rf X.K f)
def SS(X:Cx)(s:List Xi)(f:R->V3 Out):Prop:=PSs X s (Rf X.K f)
def SG(X:Cx)(e:WG)(st:D->R->V3 R):Prop:=PG X e (Vw X.K st)
def Sd(X:Cx)(es:List WG)(a:List (D->R->V3 R)):Prop:=PGs X es (T2 X.K a)
def SI(X:Cx)(tg iter:WG)(f:R->V3 LD):Prop:=PI X tg iter (Vs X.K f)
section
variable{X:Cx}{e a b c:WG}{es:List WG}{pos p:Pos}
def _root_.L2.PE.imp(h:PE X e t)(g:∀ d H Q,t' d H Q->t d H Q):PE X e t':=λf s d H Q I q=>h f s d H Q I (g d H Q q)
def _root_.L2.PT.imp(h:PT X e t)(g:∀ d H Q,t' d H Q->t d H Q):PT X e t':=λf s d H Q I q=>h f s d H Q I (g d H Q q)
def _root_.L2.PW.imp(h:PW X e t)(i:∀ d H Q,t' d H Q->t d H Q):PW X e t':=λg f s d H Q I q=>h g f s d H Q I (i d H Q q)
def _root_.L2.PA.imp(h:PA X es t)(g:∀ d H Q,t' d H Q->t d H Q):PA X es t':=λpos f s d H Q I q=>h pos f s d H Q I (g d H Q q)
def _root_.L2.PO.imp{e:V3 WG}(h:PO X e t)(g:∀ d H Q,t' d H Q->t d H Q):PO X e t':=λf s d H Q I q=>h f s d H Q I (g d H Q q)
def _root_.L2.PS.imp(h:PS X s t)(g:∀E d H,t' E d H->t E d H):PS X s t':=λf s d H E I q=>h f s d H E I (g E d H q)
def _root_.L2.PSs.imp(h:PSs X s t)(g:∀E d H,t' E d H->t E d H):PSs X s t':=λf s d H E I q=>h f s d H E I (g E d H q)
def _root_.L2.PG.imp(h:PG X e t)(g:∀v d H Q,t' v d H Q->t v d H Q):PG X e t':=λf s d H v u Q I r q=>h f s d H v u Q I r (g v d H Q q)
def _root_.L2.PGs.imp(h:PGs X es t)(g:∀v d H Q,t' v d H Q->t v d H Q):PGs X es t':=λf s d H v u Q I r q=>h f s d H v u Q I r (g v d H Q q)
def _root_.L2.PI.imp(h:PI X tg e t)(g:∀ d H Q,t' d H Q->t d H Q):PI X tg e t':=λf s d H W I q=>h f s d H W I (g d H W q)
def aK(i:Nat)(j:X.N[i]?=some x:=by rfl)(h:Do X.env.scope x:=by first | exact Or.inl rfl | exact Or.inr (Or.inl rfl) | exact Or.inr (Or.inr rfl))(hd:(x==("__debug__" : Str))=false:=by decide)
  (g:(x==("__classdict__" : Str))=false:=by decide):SE X (.Name x pos) (b9 i):=(gB j h hd g).imp λm H Q f=>by
 obtain⟨ρ,d,l,e,q⟩:=f;obtain⟨v,h1,k⟩:=l.at e;exact⟨v,h1,q v H (g6.refl H) k⟩
def pg{i j}:SE X (.Constant (.int i) j pos) (kI i):=Q6.imp λg H Q f=>by
 obtain⟨ρ,d,h,e,q⟩:=f;cases e;exact q _ H (g6.refl H) rfl
def ql{b j}:SE X (.Constant (.bool b) j pos) (λ_=>some (.bl b)):=R0.imp λg H Q f=>by
 obtain⟨ρ,d,h,e,q⟩:=f;cases e;exact q _ H (g6.refl H) rfl
def ou{j}:SE X (.Constant .none j pos) (λ_=>some .non):=Qb.imp λg H Q f=>by
 obtain⟨ρ,d,h,e,q⟩:=f;cases e;exact q _ H (g6.refl H) rfl
def kX{x j}:SE X (.Constant (.str x) j pos) (λ_=>some (.str x)):=Qu.imp λg H Q f=>by
 obtain⟨ρ,d,h,e,q⟩:=f;cases e;exact q _ H (g6.refl H) rfl
def BO(K:Wb)(mg:Str->V3 V5)(x:Str)(d:D):Prop:=∃u v,mg x=some u/\RelV v u/\∀H,Rep K H d v
def jn(h:BO X.K X.mg x d)(j:Gl X x:=by rfl)(hd:(x==("__debug__" : Str))=false:=by decide):SE X (.Name x pos) (λ_=>some d):=by
 obtain⟨u,v,i,r,g⟩:=h
 exact(ge j i r hd).imp λk H Q f=>by
  obtain⟨ρ,d',l,e,q⟩:=f;cases e;exact q v H (g6.refl H) (g H)
def Pv(X:Cx)(f:V5->V5->Sem V5)(F:D->D->OD):Prop:=
 yD X f λx y H Q=>∃h dy d,Rep X.K H h x/\Rep X.K H dy y/\F h dy=some d/\∀v g,g6 H g->Rep X.K g d v->Q v g
def Fo(X:Cx)(f:CmpOp)(F:D->D->V3 Bool):Prop:=
 yD X (compareOp f) λx y H Q=>∃d dy b,Rep X.K H d x/\Rep X.K H dy y/\F d dy=some b/\Q (.bl b) H
def Vm(X:Cx)(f:V5->Sem V5)(F:D->OD):Prop:=
 TN X f λx H Q=>∃h d,Rep X.K H h x/\F h=some d/\∀v g,g6 H g->Rep X.K g d v->Q v g
def Pb(X:Cx)(f:V5)(F:LD->OD):Prop:=
 CallR X f λxs H Q=>∃ds d,g7 X.K H ds xs/\F ds=some d/\∀v g,g6 H g->Rep X.K g d v->Q v g
def _root_.L2.CallR.imp(h:CallR X f r)(k:∀x H Q,g x H Q->r x H Q):CallR X f g:=λd s i H xs us Q I j q=>h d s i H xs us Q I j (k xs H Q q)
variable{f g h:R->OD}
theorem two(q:tD X.K (d6 F f g) j H Q) :
  tD X.K f j H λx n=>tD X.K g j n λy i=>∃m dy d,Rep X.K i m x/\Rep X.K i dy y/\F m dy=some d/\∀v k,g6 i k->Rep X.K k d v->Q v k:=by
 obtain⟨ρ,d,l,e,q⟩:=q;obtain⟨x,t,e⟩:=d7 e;obtain⟨y,s,e⟩:=d7 e;exact⟨ρ,x,l,t,λv n s1 r1=>⟨ρ,y,l.mono s1,s,λu i s2 r=>⟨x,y,d,r1.mono s2,r,e,λw z s3 o=>q w z (s1.trans (s2.trans s3)) o⟩⟩⟩
def qi(i:Pv X (binaryOp d) F)(k:SE X a f)(j:SE X b g):SE X (.BinOp a d b pos) (d6 F f g):=(oh i k j).imp λl H Q q=>two q
def qD(l:Vm X (unaryOp j) F)(m:SE X a f):SE X (.UnaryOp j a pos) (NV F f):=(qv l m).imp λs H Q i=>by
 obtain⟨ρ,d,n,e,q⟩:=i;obtain⟨x,o,e⟩:=d7 e;exact⟨ρ,x,n,o,λv t s1 r1=>⟨x,d,r1,e,λw r s2 k=>q w r (s1.trans s2) k⟩⟩
def Ui(q:Rx X.K (i9 F f g) j H Q) :
  tD X.K f j H λx m=>tD X.K g j m λy i=>∃l dy b,Rep X.K i l x/\Rep X.K i dy y/\F l dy=some b/\Q b i:=by
 obtain⟨ρ,d,k,e,q⟩:=q;obtain⟨x,r,e⟩:=d7 e;obtain⟨y,o,e⟩:=d7 e;exact⟨ρ,x,k,r,λv m s1 r1=>⟨ρ,y,k.mono s1,o,λu i s2 n=>⟨x,y,d,r1.mono s2,n,e,q i (s1.trans s2)⟩⟩⟩
def Qs{f:R->V3 Bool}(q:tD X.K (zJ f) i H Q):Rx X.K f i H λb m=>Q (.bl b) m:=by
 obtain⟨ρ,d,j,e,q⟩:=q;obtain⟨x,k,e⟩:=q8 e;subst e;exact⟨ρ,x,j,k,λl s1=>q _ l s1 rfl⟩
def pD(i:Fo X d F)(l:SE X a f)(k:SE X b g)(j:behindInMarks d b=false:=by first | exact Kb _ | with_unfolding_all rfl) :
  SE X (.Compare a [d] [b] pos) (zJ (i9 F f g)):=(nj i l k j).imp λm H Q q=>Ui (Qs q)
def pM(l:Fo X i F)(o:SE X a f)(n:SE X b g)(m:behindInMarks i b=false:=by first | exact Kb _ | with_unfolding_all rfl) :
  ST X (.Compare a [i] [b] pos) (i9 F f g):=(nK l o n m).imp λw H Q q=>by
 obtain⟨ρ,d,j,e,q⟩:=q;obtain⟨x,s,e⟩:=d7 e;obtain⟨y,r,e⟩:=d7 e;exact⟨ρ,x,j,s,λv z s1 r1=>⟨ρ,y,j.mono s1,r,λu t s2 k=>⟨x,y,d,r1.mono s2,k,e,d,rfl,q t (s1.trans s2)⟩⟩⟩
def LP(n:∀b o,Q b o->Qv (.bl b) o)(q:Rx X.K (Oj F G f g h) l H Q) :
  J_ (λx y H Q=>∃i dy b,Rep X.K H i x/\Rep X.K H dy y/\F i dy=some b/\Q (.bl b) H) (λx y H Q=>∃i dy b,Rep X.K H i x/\Rep X.K H dy y/\G i dy=some b/\Q (.bl b) H)
   (tD X.K f) (tD X.K g) (tD X.K h) l H Qv:=by
 obtain⟨ρ,d,j,e,q⟩:=q;obtain⟨x,A,e⟩:=d7 e;obtain⟨y,w,e⟩:=d7 e;obtain⟨k,t,e⟩:=d7 e;refine⟨ρ,x,j,A,λv I s1 r1=>⟨ρ,y,j.mono s1,w,λu C s2 m=>⟨x,y,k,r1.mono s2,m,t,k,rfl,?_⟩⟩⟩;cases k with
 | false =>
  cases e;rw[Wu We];exact n _ _ (q C (s1.trans s2))
 | true =>
  rw[Wc rfl] at e ⊢;obtain⟨z,s,e⟩:=d7 e;exact⟨ρ,z,j.mono (s1.trans s2),s,λE B s3 r=>⟨y,z,d,m.mono s3,r,e,n _ _ (q B (s1.trans (s2.trans s3)))⟩⟩
def kQ(l:Fo X i F)(j:Fo X d G)(r:SE X a f)(o:SE X b g)(n:SE X c h)(m:lastMarks [i,d] [b,c]=false:=by with_unfolding_all rfl) :
  ST X (.Compare a [i,d] [b,c] pos) (Oj F G f g h):=(kT l j r o n m).imp λt H Q q=>LP (Qv:=λx s=>∃k,x=.bl k/\Q k s) (λb _ z=>⟨b,rfl,z⟩) q
def NA{b:Bool}{K:Wb}(r:Rep K H d v)(e:Q2 d=some b):PP K v H b:=by
 cases d with
 | non=>cases (show v=_ from r);cases e;exact rfl
 | bl c=>cases (show v=_ from r);cases e;exact rfl
 | int i=>cases (show v=_ from r);cases e;exact rfl
 | str x =>
  cases (show v=_ from r);unfold Q2 at e;dsimp only at e;split at e
  ·rename_i j
   cases e;exact⟨j,rfl⟩
  ·cases e
 | tup ds =>
  obtain⟨a,xs,rfl,q,t⟩:=r;cases e;refine .inr (.inl ⟨xs,q,?_⟩);cases ds with
  | nil=>cases (show xs=[] from t);rfl
  | cons d ds=>obtain⟨_,_,rfl,_⟩:=t;rfl
 | lst ds =>
  obtain⟨a,xs,rfl,q,t⟩:=r;cases e;refine .inl ⟨xs,uI.of q,?_⟩;cases ds with
  | nil=>cases (show xs=[] from t);rfl
  | cons d ds=>obtain⟨_,_,rfl,_⟩:=t;rfl
 | fro ds =>
  obtain⟨a,xs,rfl,q,t⟩:=r;cases e;refine .inl ⟨xs,q,?_⟩;cases ds with
  | nil=>cases (show xs=[] from t);rfl
  | cons d ds=>obtain⟨_,_,rfl,_⟩:=t;rfl
 | obj k a ks ds=>cases e
 | dct ks ds=>cases e
 | dcp ks ds=>cases e
 | cl t a ds=>cases e
def pG(j:SE X a f)(i:∀whole,isTrue a X.env whole=(do let v <- whole;standAt a.pos;holding [v] (truthy v)):=by intro _;rfl):ST X a (tQ f):=(k_ j i).imp λn H Q d=>by
 obtain⟨ρ,b,k,e,q⟩:=d;obtain⟨x,l,e⟩:=d7 e;exact⟨ρ,x,k,l,λv m s1 r1=>⟨b,NA r1 e,q m s1⟩⟩
variable{s t:R->V3 Bool}{rest:List WG}
def nT{e:WG}(h:SW X e s):ST X e s:=PW.pt h
def nh(d:ST X a s):SW X (.BoolOp .And [a] pos) s:=MV d
def pW(d:ST X a s):SW X (.BoolOp .Or [a] pos) s:=Rm d
def lS(l:ST X a s)(j:SW X (.BoolOp .And (b::rest) pos) t):SW X (.BoolOp .And (a::b::rest) pos) (BQ s t):=(P_ l j).imp λr H Q d=>by
 obtain⟨ρ,k,i,e,q⟩:=d;obtain⟨x,m,e⟩:=d7 e;refine⟨ρ,x,i,m,λo s1=>?_⟩;cases x with
 | false=>cases e;rw[Wu We];exact q o s1
 | true=>rw[Wc rfl] at e ⊢;exact⟨ρ,k,i.mono s1,e,λn s2=>q n (s1.trans s2)⟩
def oe(l:ST X a s)(j:SW X (.BoolOp .Or (b::rest) pos) t):SW X (.BoolOp .Or (a::b::rest) pos) (Jo s t):=(RX l j).imp λr H Q d=>by
 obtain⟨ρ,k,i,e,q⟩:=d;obtain⟨x,m,e⟩:=d7 e;refine⟨ρ,x,i,m,λo s1=>?_⟩;cases x with
 | true=>cases e;rw[Wc rfl];exact q o s1
 | false=>rw[Wu We] at e ⊢;exact⟨ρ,k,i.mono s1,e,λn s2=>q n (s1.trans s2)⟩
def ow(i:ST X a s):ST X (.UnaryOp .Not a pos) (yn s):=(oG i).imp λn H Q d=>by
 obtain⟨ρ,k,j,e,q⟩:=d;obtain⟨x,l,e⟩:=q8 e;subst e;exact⟨ρ,x,j,l,λm s1=>q m s1⟩
def pH{op}(d:SE X a f):SE X (.BoolOp op [a] pos) f:=oE d
def oJ(m:SE X a f)(l:SE X (.BoolOp .And (b::rest) pos) g):SE X (.BoolOp .And (a::b::rest) pos) (vy f g):=(pB m l).imp λu H Q i=>by
 obtain⟨ρ,d,j,e,q⟩:=i;obtain⟨x,n,e⟩:=d7 e;refine⟨ρ,x,j,n,λv r s1 r1=>?_⟩;cases x with
 | bl c =>
  cases (show v=_ from r1);refine⟨c,rfl,?_⟩;cases c with
  | false=>cases e;rw[Wu We];exact q _ r s1 rfl
  | true=>rw[Wc rfl];exact⟨ρ,d,j.mono s1,e,λv o s2 k=>q v o (s1.trans s2) k⟩
 | _=>cases e
def oF(j:SE X a f):SE X (.UnaryOp .Not a pos) (EZ f):=(oQ j).imp λn H Q i=>by
 obtain⟨ρ,d,k,e,q⟩:=i;obtain⟨x,l,e⟩:=d7 e;refine⟨ρ,x,k,l,λv m s1 r1=>?_⟩;cases x with
 | bl c =>
  cases (show v=_ from r1);cases e;exact⟨c,rfl,q _ m s1 rfl⟩
 | _=>cases e
def qj(m:ST X c s)(o:SE X a f)(n:SE X b g):SE X (.IfExp c a b pos) (Ha s f g):=(mr m o n).imp λu H Q j=>by
 obtain⟨ρ,d,k,e,q⟩:=j;obtain⟨x,r,e⟩:=d7 e;refine⟨ρ,x,k,r,λw s1=>?_⟩;cases x with
 | true=>rw[Wc rfl] at e ⊢;exact⟨ρ,d,k.mono s1,e,λv l s2 i=>q v l (s1.trans s2) i⟩
 | false=>rw[Wu We] at e ⊢;exact⟨ρ,d,k.mono s1,e,λv l s2 i=>q v l (s1.trans s2) i⟩
variable{F:R->V3 LD}
def aD:SA X [] d4:=⟨GO.imp λi H Q ⟨ρ,d,j,e,q⟩=>by cases e;exact q [] H (g6.refl H) rfl,λρ ds e=>by cases e;rfl,rfl⟩
def aj(o:SE X e f)(i:SA X es F)(k:noStar e=true:=by rfl):SA X (e::es) (b8 f F):=⟨(cM o i.1 (ad es X.env k)).imp λu H Q d=>by
 obtain⟨ρ,ds,l,e,q⟩:=d;obtain⟨x,m,e⟩:=d7 e;obtain⟨y,j,e⟩:=q8 e;subst e;exact⟨ρ,x,l,m,λv z s1 r1=>⟨ρ,y,l.mono s1,j,λw r s2 n=>q _ r (s1.trans s2) (g7.cons (r1.mono s2) n)⟩⟩,λρ ds e=>by
 obtain⟨x,m,e⟩:=d7 e;obtain⟨y,j,e⟩:=q8 e;subst e;simp[i.2.1 ρ y j],by rw[W9,k,i.2.2];rfl⟩
def ar{p:V_}(h:H p=none)(o:HO):g6 H (upd H p o):=λb u q=>by rw[ac (sO q h)];exact q
def pz{k}(h:SA X es F)(n:Nat.ble es.length 1000=true:=by rfl):SE X (.Tuple es k pos) (l9 F):=(mf h.1).imp λr H Q i=>by
 obtain⟨ρ,d,o,e,q⟩:=i;obtain⟨ds,l,e⟩:=q8 e;subst e;refine⟨ρ,ds,o,l,λj u s1 r1=>⟨?_,λp m=>?_⟩⟩
 ·rw[<- r1.length,h.2.1 ρ ds l];exact Nat.le_of_lt (wK (Nat.le_of_ble_eq_true n))
 ·have s2:=ar m (.tup j)
  exact q _ _ (s1.trans s2) ⟨p,j,rfl,tS.of aa,r1.mono s2⟩
def pO(h:SA X es F)(m:Nat.ble es.length 1000=true:=by rfl):SE X (.List es pos) (x3 F):=(gT h.1).imp λo H Q i=>by
 obtain⟨ρ,d,n,e,q⟩:=i;obtain⟨ds,k,e⟩:=q8 e;subst e;refine⟨ρ,ds,n,k,λj r s1 r1=>⟨?_,λp l=>?_⟩⟩
 ·rw[<- r1.length,h.2.1 ρ ds k];exact Nat.le_of_lt (wK (Nat.le_of_ble_eq_true m))
 ·have s2:=ar l (.lst j)
  exact q _ _ (s1.trans s2) ⟨p,j,rfl,aa,r1.mono s2⟩
structure GF (P:Wr) (w:WC) (K:Wb) (mg:Str->V3 V5) (base:WK) (k:Nat) (x:Str) (ps:List Str) (F:LD->OD):Prop where
 ex:∃f fd,rM P w K mg base vq k f fd ps (NT K F)/\mg x=some (.ref f)/\W.keepIn K (.ref f)=true/\Binds K fd ps []
theorem GF.mono{K:Wb}{j k:Nat}{F:LD->OD}(h:GF P w K mg base j x ps F)(d:j<=k):GF P w K mg base k x ps F:=by
 obtain⟨f,fd,a,b⟩:=h.ex;exact⟨f,fd,a.mono d,b⟩
def jL{k:Nat}(C:GF X.prog X.w X.K X.mg X.base k x ps G)(u:rJ k X.A)(o:SA X (e::es) F)(y:Gl X x:=by rfl)
  (n:(x==("__debug__" : Str))=false:=by decide) :
  SE X (.Call (.Name x p) (e::es) [] pos) (d3 G F):=by
 have i:=o.2.2;rw[W9,Wj] at i;have z:=ad es X.env i.1;have l:=aM (pos:=pos) (env:=X.env) i.2;obtain⟨f,fd,a,m,kp,bd⟩:=C.ex;refine(eN a u y m kp bd .nil AB o.1 n z l).imp λJ H Q j=>?_
 obtain⟨ρ,d,B,e,q⟩:=j;obtain⟨ds,E,e⟩:=d7 e;exact⟨ρ,ds,B,E,λL M s1 r1=>⟨ds,d,by rw[WT];exact r1,e,λv I s2 r=>q v I (s1.trans s2) r⟩⟩
def db{x:Str}{id:String}{G:LD->OD}(w:Pb X (.builtin id) G)(r:X.mg x=none)(k:SA X (e::es) F)(n:bootBuiltins x=some (.builtin id):=by kernel_rfl)(u:Gl X x:=by rfl)(o:x ≠ "__name__":=by decide)(j:(x==("__debug__" : Str))=false:=by decide):SE X (.Call (.Name x p) (e::es) [] pos) (d3 G F):=
 (iy w u r n k.1 o j (ad es X.env (Xe.mp k.2.2 e Ws)) (aM (Xe.mpr λx m=>Xe.mp k.2.2 x (Wt _ m)))).imp λB H Q i=>by
  obtain⟨ρ,d,y,e,q⟩:=i;obtain⟨ds,z,e⟩:=d7 e;exact⟨ρ,ds,y,z,λC E s1 r1=>⟨ds,d,r1,e,λv A s2 l=>q v A (s1.trans s2) l⟩⟩
def fG(w:Pb X (.type T) G)(r:X.mg x=none)(k:SA X (e::es) F)(n:bootBuiltins x=some (.type T):=by kernel_rfl)(u:Gl X x:=by rfl)(o:x ≠ "__name__":=by decide)(j:(x==("__debug__" : Str))=false:=by decide):SE X (.Call (.Name x p) (e::es) [] pos) (d3 G F):=
 (kG w u r n k.1 o j (ad es X.env (Xe.mp k.2.2 e Ws)) (aM (Xe.mpr λx m=>Xe.mp k.2.2 x (Wt _ m)))).imp λB H Q i=>by
  obtain⟨ρ,d,y,e,q⟩:=i;obtain⟨ds,z,e⟩:=d7 e;exact⟨ρ,ds,y,z,λC E s1 r1=>⟨ds,d,r1,e,λv A s2 l=>q v A (s1.trans s2) l⟩⟩
def VD(X:Cx)(F:D->D->OD):Prop:=IxR X λx y H Q=>∃j dy d,Rep X.K H j x/\Rep X.K H dy y/\F j dy=some d/\∀v i,g6 H i->Rep X.K i d v->Q v i
def _root_.L2.IxR.imp(h:IxR X r)(w:∀x y H Q,k x y H Q->r x y H Q):IxR X k:=λd i j s l H x y v u Q I n m q o=>h d i j s l H x y v u Q I n m (w x y H Q q) o
def P4(n:Nat)(i:Int):Ry n i=R3 n i:=rfl
def C7{K:Wb}{i:Int}(r:g7 K H ds xs)(e:C9 ds i=some d):∃v,PD xs i=some v/\Rep K H d v:=by
 obtain⟨j,m,l⟩:=d7 e;obtain⟨v,h1,k⟩:=r.get l;refine⟨v,?_,k⟩;unfold PD;rw[<- r.length,<- P4,m];exact h1
def UA:VD X e8:=(Ou.or (Q3.or Qr)).imp λx y H Q n=>by
 obtain⟨r,dy,d,r1,m,e,q⟩:=n;cases r with
 | tup ds =>
  cases dy with
  | int i =>
   obtain⟨a,xs,j,k,t⟩:=r1;cases (show y=_ from m);obtain⟨v,h1,l⟩:=C7 t e;exact .inr (.inl ⟨a,xs,i,v,j,rfl,k,h1,q v H (g6.refl H) l⟩)
  | _=>cases e
 | lst ds =>
  cases dy with
  | int i =>
   obtain⟨a,xs,j,k,t⟩:=r1;cases (show y=_ from m);obtain⟨v,h1,l⟩:=C7 t e;exact .inl ⟨a,xs,i,v,j,rfl,uI.of k,h1,q v H (g6.refl H) l⟩
  | _=>cases e
 | fro ds =>
  cases dy with
  | int i =>
   obtain⟨a,xs,j,k,t⟩:=r1;cases (show y=_ from m);obtain⟨v,h1,l⟩:=C7 t e;exact .inl ⟨a,xs,i,v,j,rfl,k,h1,q v H (g6.refl H) l⟩
  | _=>cases e
 | str z =>
  cases dy with
  | int i =>
   cases (show x=_ from r1);cases (show y=_ from m);unfold e8 at e;dsimp only at e;split at e
   ·rename_i hz
    obtain⟨c,j,o⟩:=q8 e;subst o;exact .inr (.inr ⟨z,i,c,rfl,rfl,hz,(by rw[<- j];rfl),q _ H (g6.refl H) rfl⟩)
   ·cases e
  | _=>cases e
 | _=>cases e
def iT(j:SE X a f)(i:SE X b g)(d:Dp b:=by intro _ _;rfl):SE X (.Subscript a b pos) (d6 e8 f g):=(n_ UA j i d).imp λk H Q q=>two q
variable{st:Xi}{sts:List Xi}{u w:R->V3 Out}
def pS:SS X [] qZ:=Ab.imp λE i H d=>by
 obtain⟨ρ,k,o,j,e,q⟩:=d;cases e;exact q H (g6.refl H) i j
def QH{K:Wb}(q:Rf K (i4 u w) E l H):Rf K u {E with nx:=Rf K w E} l H:=by
 obtain⟨ρ,k,o,r,e,q⟩:=q;obtain⟨m,v,e⟩:=d7 e;refine⟨ρ,k,m,r,v,λj s1=>?_⟩;cases m with
 | nx ρ2=>exact λn i=>⟨ρ2,k,o,i,e,λx s2=>q x (s1.trans s2)⟩
 | rt d=>cases e;exact q j s1
 | bk ρ2=>cases e;exact q j s1
 | ct ρ2=>cases e;exact q j s1
def jB(h1:S1 X st u)(d:SS X sts w):SS X (st::sts) (i4 u w):=(aS h1 d).imp λE i H q=>QH q
def lU(h1:S1 X st u):SS X [st] u:=bK h1
def nY(i:SE X a f):S1 X (.Return (some a) pos) (i5 f):=(gM i).imp λE n H d=>by
 obtain⟨ρ,m,o,j,e,q⟩:=d;obtain⟨x,k,e⟩:=q8 e;subst e;exact⟨ρ,x,j.1,k,λv l s1 r1=>q l s1 v r1⟩
def qp(n:ST X c s)(v:SS X m u)(r:SS X l w):S1 X (.If c m l pos) (uG s u w):=(jU n v r).imp λE z H d=>by
 obtain⟨ρ,k,o,i,e,q⟩:=d;obtain⟨x,y,e⟩:=d7 e;refine⟨ρ,x,i.1,y,λA s1=>?_⟩;cases x with
 | true=>rw[Wc rfl] at e ⊢;exact⟨ρ,k,o,i.mono s1,e,λj s2=>q j (s1.trans s2)⟩
 | false=>rw[Wu We] at e ⊢;exact⟨ρ,k,o,i.mono s1,e,λj s2=>q j (s1.trans s2)⟩
def eX(i:Nat)(o:X.N.Nodup)(m:X.N[i]?=some x:=by rfl)(l:Loc X.env.scope x:=by first | exact Or.inl rfl | exact Or.inr rfl)(n:X.fn x=true\/X.env.scope.names.lookup x=some .local:=by first | exact .inl rfl | exact .inr rfl) :
  SG X (.Name x pos) (setAt i):=(mT o m l n).imp λv A H Q j=>by
 obtain⟨ρ,z,d,ρ',y,r,e,q⟩:=j;unfold setAt at e;split at e
 ·rename_i k
  cases e;exact q _ H (g6.refl H) (y.set k r)
 ·cases e
variable{stf:D->R->V3 R}{stfs:List (D->R->V3 R)}
def nN:Sd X [] []:=MY.imp λv j H Q i=>by
 obtain⟨ρ,l,ds,ρ',k,r,e,q⟩:=i;cases ds with
 | nil=>cases e;exact⟨r,q j H (g6.refl H) k⟩
 | cons d ds=>cases e
def my(h1:SG X e stf)(A:Sd X es stfs)(z:(assignEach (e::es) X.env).map (·.2)=assign e X.env::(assignEach es X.env).map (·.2):=by rfl):Sd X (e::es) (stf::stfs):=
 (LB h1 A z).imp λv G H Q j=>by
  obtain⟨ρ,m,ds,ρ',B,r,e,q⟩:=j;cases ds with
  | nil=>cases e
  | cons d ds =>
   obtain⟨x,o,rfl,r1,y⟩:=r;obtain⟨ρ1,C,e⟩:=d7 e;exact⟨x,o,rfl,ρ,m,d,ρ1,B,r1,C,λn I s1 l=>⟨ρ1,m,ds,ρ',l,y.mono s1,e,λi E s2 k=>q i E (s1.trans s2) k⟩⟩
theorem Cu:∀{i:List (D->R->V3 R)} {ds:LD} {ρ ρ':R},Fk i ds ρ=some ρ'->ds.length=i.length
 | [],[],_,_,_=>rfl
 | [],_::_,_,_,e=>by cases e
 | _::_,[],_,_,e=>by cases e
 | f::i,d::ds,_,_,e=>by
  obtain⟨_,_,e⟩:=d7 e;simp[Cu e]
def pL{k}(o:X.calm=true)(h:Sd X es stfs)(n:(assignEach es X.env).length=stfs.length:=by rfl)(j:(assignEach es X.env).findIdx? (·.1)=none:=by rfl):SG X (.Tuple es k pos) (zL stfs):=
 (ox o h n j).imp λv z H Q i=>by
  obtain⟨ρ,l,d,ρ',x,r,e,q⟩:=i;cases d with
  | tup ds =>
   obtain⟨a,xs,y,m,t⟩:=r;exact⟨a,xs,y,m,by rw[<- t.length];exact Cu e,ρ,l,ds,ρ',x,t,e,q⟩
  | _=>cases e
def me(y:SE X a f)(r:SG X tg stf)(n:swapsWithSole [tg] a pos.line X.env=pure false:=by rfl)(m:swappedStores [tg] a X.env=pure none:=by rfl)(h1:(assignEach [tg] X.env).map (·.2)=[assign tg X.env]:=by rfl) :
  S1 X (.Assign [tg] a pos) (i7 f stf):=(pq y r n m h1).imp λE C H i=>by
 obtain⟨ρ,l,o,k,e,q⟩:=i;obtain⟨x,A,e⟩:=d7 e;obtain⟨ρ',z,e⟩:=q8 e;subst e;exact⟨ρ,x,k.1,A,λv G s1 r1=>⟨ρ,l,x,ρ',k.mono s1,r1,z,λd B s2 j=>q B (s1.trans s2) d j⟩⟩
def Kp.of(s:g6 H d):Kp H d:=λb u e _=>s b u e
def Kp.seq{K:Wb}{a:V_}(s:Kp H d)(h:uI K H a xs):uI K d a xs:=by
 rcases h with (h | ⟨o,h⟩) | h
 ·exact .inl (.inl (s _ _ h λi z=>nomatch z))
 ·exact .inl (.inr ⟨o,s _ _ h λi z=>nomatch z⟩)
 ·exact .inr h
def Kp.tup{K:Wb}{a:V_}(s:Kp H d)(h:tS K H a xs):tS K d a xs:=by
 rcases h with (h | ⟨o,h⟩) | h
 ·exact .inl (.inl (s _ _ h λi z=>nomatch z))
 ·exact .inl (.inr ⟨o,s _ _ h λi z=>nomatch z⟩)
 ·exact .inr h
mutual
theorem Rep.kp{K:Wb}(s:Kp H k):∀{d:D} {v:V},Rep K H d v->Rep K k d v
 | .non,_,h=>h
 | .bl _,_,h=>h
 | .int _,_,h=>h
 | .str _,_,h=>h
 | .tup ds,_,h=>by
  obtain⟨a,xs,e,q,r⟩:=h;exact⟨a,xs,e,s.tup q,g7.kp s r⟩
 | .lst ds,_,h=>by
  obtain⟨a,xs,e,q,r⟩:=h;exact⟨a,xs,e,s _ _ q (λi z=>by cases z),g7.kp s r⟩
 | .fro ds,_,h=>by
  obtain⟨a,xs,e,q,r⟩:=h;exact⟨a,xs,e,s.seq q,g7.kp s r⟩
 | .obj ..,_,h=>h
 | .dct ks ds,_,h=>by
  obtain⟨a,xs,e,q,r⟩:=h;exact⟨a,xs,e,⟨q.1,let ⟨o,z⟩:=q.2;⟨o,s _ _ z (λi z=>by cases z)⟩⟩,g7.kp s r⟩
 | .dcp ks ds,_,h=>by
  obtain⟨a,j,xs,e,q,r⟩:=h;exact⟨a,j,xs,e,q.to (λ_ _=>s.tup) λo u z=>s _ _ z (λi z=>by cases z),g7.kp s r⟩
 | .cl t a ds,_,h=>by
  obtain⟨e,cl,xs,pm,ctv,c',h1,n,m,l,r⟩:=h;exact⟨e,cl,xs,pm,ctv,c',s _ _ h1 (λi z=>by cases z),s _ _ n (λi z=>by cases z),m,l.to λb o z=>s _ _ z (λi z=>by cases z),g7.kp s r⟩
theorem g7.kp{K:Wb}(s:Kp H j):∀{ds:LD} {i:List V},g7 K H ds i->g7 K j ds i
 | [],_,h=>h
 | d::ds,_,h=>by
  obtain⟨v,r,e,q,t⟩:=h;exact⟨v,r,e,Rep.kp s q,g7.kp s t⟩
end
theorem sh.kp{K:Wb}(e:sh K H ρ j)(s:Kp H k):sh K k ρ j:=⟨e.1,λi d h=>let ⟨v,a,b⟩:=e.2 i d h;⟨v,a,b.kp s⟩⟩
theorem r_.kp{K:Wb}(e:r_ K H ρ d i)(s:Kp H j):r_ K j ρ d i:=⟨e.1.kp s,e.2⟩
def ir{K:Wb}{a:V_}(k:uI K H a xs)(t:g7 K H ds xs):v6 K (UK K a) ds H:=by
 refine⟨λi d o s2 e=>?_,λi o s2 l=>⟨xs,s2.seq k,by rw[<- t.length];exact l⟩⟩;obtain⟨v,h1,m⟩:=t.get e;refine⟨⟨xs,v,s2.seq k,h1⟩,λx q j=>?_⟩;obtain⟨n,y⟩:=j;subst n;have:=(y xs (s2.seq k)).symm.trans h1;cases this;exact⟨g6.refl _,m.kp s2⟩
def iW{K:Wb}{a:V_}(k:tS K H a xs)(t:g7 K H ds xs):v6 K (U4 K a) ds H:=by
 refine⟨λi d o s2 e=>?_,λi o s2 l=>⟨xs,s2.tup k,by rw[<- t.length];exact l⟩⟩;obtain⟨v,h1,m⟩:=t.get e;refine⟨⟨xs,v,s2.tup k,h1⟩,λx q j=>?_⟩;obtain⟨n,y⟩:=j;subst n;have:=(y xs (s2.tup k)).symm.trans h1;cases this;exact⟨g6.refl _,m.kp s2⟩
def K2{a b:Int}{i:Nat}(e:(sa a b)[i]?=some d):i<(b - a).toNat/\d=.int (a+i):=by
 unfold sa at e;rw[Wg] at e;obtain⟨k,l,e⟩:=q8 e;obtain⟨h1,j⟩:=Wm.mp l;rw[List.length_range] at h1;rw[List.getElem_range] at j;subst j;exact⟨h1,e.symm⟩
def jm{K:Wb}{a b:Int}:v6 K (Tx a (b - a).toNat) (sa a b) H:=by
 refine⟨λi d m s2 e=>?_,λi m s2 k=>by
  have z:(sa a b).length=(b - a).toNat:=by simp[sa]
  rw[z] at k;exact k⟩
 obtain⟨h1,rfl⟩:=K2 e;refine⟨h1,λx n j=>?_⟩;obtain⟨l,y⟩:=j;subst l;exact⟨g6.refl _,y⟩
def UH(K:Wb)(j:TE):TI:=λi H W=>j i H λx d=>(∃a,x=.ref a/\(((∃xs,uI K d a xs)/\W (UK K a) d)\/((∃xs,tS K d a xs)/\W (U4 K a) d)))\/∃z,x=.str z/\z.cps.all (·<128)=true/\W (Uo z) d
def iU{K:Wb}:v6 K (Uo x) (chars x) H:=by
 have l:(chars x).length=x.cps.size:=by simp[chars]
 refine⟨λi d r s2 e=>?_,λi r s2 h=>by rw[l] at h;exact h⟩;have n:i<x.cps.size:=by rw[<- l];exact(Wm.mp e).1
 refine⟨n,λv y j=>?_⟩;obtain⟨q,c,h1,o⟩:=j;subst q;refine⟨g6.refl _,?_⟩;unfold chars at e;rw[Wg] at e;obtain⟨c',m,e⟩:=q8 e;have k:x.cps.toList[i]?=some c:=by simpa using h1
 rw[k] at m;cases m;subst e;exact o
def pe(E:PE X l A):PI X tg l (UH X.K A):=by
 intro i s B H W I h;refine rg (E i s B H _ I h) λv s1 n=>?_
 obtain⟨x,y,d,r1,m⟩:=n;rcases m with ⟨a,e,m⟩ | ⟨z,e,hz,q⟩
 rotate_left
 ·subst e
  obtain⟨t,rfl⟩:=r1;refine wpAny_pyIter_ascii hz ?_;refine⟨s1.heap.objs.size,[s1.heap.objs.size],_,_,y,rfl,d.kept (t':=s1.toks) λb o e=>V6 _ e,Ly _ z t,⟨_,Wf _ rfl,rfl,rfl⟩,λb k=>?_,q⟩;have e:b=s1.heap.objs.size:=by simpa using k
  subst e;exact d.fpOk (Wl _) (d.hok.fresh (Wl _))
 subst e;cases r1;rcases m with ⟨⟨xs,r⟩,q⟩ | ⟨⟨xs,r⟩,q⟩
 ·obtain⟨j,C,p,hz⟩:=d.list r
  refine wpAny_pyIter_list p.isList ?_;refine⟨s1.heap.objs.size,[s1.heap.objs.size],_,_,y,rfl,d.kept (t':=s1.toks) λb o e=>V6 _ e,IT a _,⟨_,Wf _ rfl,rfl,rfl⟩,λb k=>?_,q⟩;have e:b=s1.heap.objs.size:=by simpa using k
  subst e;exact d.fpOk (Wl _) (d.hok.fresh (Wl _))
 ·obtain⟨j,C,p,hz⟩:=d.tuple r
  refine wpAny_pyIter_tuple (show s1.heap.IsTuple a j.toArray from p) ?_;refine⟨s1.heap.objs.size,[s1.heap.objs.size],_,_,y,rfl,d.kept (t':=s1.toks) λb o e=>V6 _ e,F8 a _,⟨_,Wf _ rfl,rfl,rfl⟩,λb k=>?_,q⟩;have e:b=s1.heap.objs.size:=by simpa using k
  subst e;exact d.fpOk (Wl _) (d.hok.fresh (Wl _))
def ml(m:SE X a f):SI X tg a (qU f):=(pe m).imp λr H W j=>by
 obtain⟨ρ,ds,n,e,q⟩:=j;obtain⟨x,o,e⟩:=d7 e;refine⟨ρ,x,n,o,λv l s1 r1=>?_⟩;cases x with
 | tup xs =>
  cases e;obtain⟨a,i,k,d,t⟩:=r1;exact .inl ⟨a,k,.inr ⟨⟨i,d⟩,q _ l s1 (iW d t)⟩⟩
 | lst xs =>
  cases e;obtain⟨a,i,k,d,t⟩:=r1;exact .inl ⟨a,k,.inl ⟨⟨i,uI.of d⟩,q _ l s1 (ir (uI.of d) t)⟩⟩
 | str z =>
  dsimp only at e;split at e
  ·rename_i hz
   cases e;cases (show v=_ from r1);exact .inr ⟨z,rfl,hz,q _ l s1 iU⟩
  ·cases e
 | _=>cases e
def jH(o:X.mg "range" = none)(A:SE X a f)(y:Gl X "range":=by rfl)(i:noStar a=true:=by rfl):SI X tg (.Call (.Name "range" p) [a] [] pos) (rj f):=
 (kc y o (aj A aD i).1 (ad [] X.env i)).imp λE H W d=>by
  obtain⟨ρ,ds,B,e,q⟩:=d;obtain⟨x,C,e⟩:=d7 e;cases x with
  | int j =>
   dsimp only at e;split at e
   ·rename_i k
    cases e;refine⟨ρ,[.int j],B,by show(f ρ).bind _=_;rw[C];rfl,λG l s1 r1=>?_⟩;obtain⟨v,r,rfl,n,m⟩:=r1;cases (show v=_ from n);cases (show r=_ from m);refine⟨j,rfl,k.1,k.2,q _ l s1 ?_⟩;have z:=jm (K:=X.K) (H:=l) (a:=0) (b:=j);rw[Int.sub_zero] at z;exact z
   ·cases e
  | _=>cases e
def qu(hp:PassesOwn (model X.prog X.w) X.A X.env X.xe)(hc:X.calm=true)(U:SI X tg iter it)(hg:SG X tg stf)(hb:SS X B u)
  (hs:∀x,foldedSetIterable iter X.env x=pure x:=by intro _;rfl):S1 X (.For tg iter B [] pos) (yh it stf u):=(jk hp hc U hg hb hs).imp λE σ H L=>by
 obtain⟨ρ,I,o,W,e,q⟩:=L;obtain⟨ds,e1,e⟩:=d7 e;refine⟨ρ,ds,W.1,e1,λJ Q s1 y=>?_⟩;refine⟨λi m v z=>m=ds.length - i/\i<=ds.length/\g6 Q z/\∃ ρ',r_ X.K z ρ' I v/\xE stf u (ds.drop i) ρ'=some o,⟨ds.length,by simp,W4 _,g6.refl _,ρ,W.mono s1,by simpa using e⟩,?_⟩;rintro i m v z ⟨rfl,U,s2,ρ',G,k⟩;by_cases n:i<ds.length
 ·refine .inr ?_
  have hd:ds[i]?=some ds[i]:=by simp[n]
  obtain⟨M,hy⟩:=y.1 i ds[i] z (Kp.of s2) hd;rw[W6 n] at k;obtain⟨ρ1,e2,k⟩:=d7 k;obtain⟨S,e3,k⟩:=d7 k;refine⟨M,λC P=>i+1<=ds.length/\g6 Q P/\∃ ρ',r_ X.K P ρ' I C/\xE stf u (ds.drop (i+1)) ρ'=some o,λC P T=>⟨ds.length - (i+1),by omega,rfl,T.1,T.2⟩,λx H3 Z=>?_⟩;obtain⟨s3,rx⟩:=hy x H3 Z;refine⟨ρ',I,ds[i],ρ1,G.mono s3,rx,e2,λY H4 s4 N=>⟨ρ1,I,S,N,e3,λO s5=>?_⟩⟩;have l:g6 Q O:=s2.trans (s3.trans (s4.trans s5));cases S with
  | nx ρ2=>exact λr j=>⟨n,l,ρ2,j,k⟩
  | ct ρ2=>exact λr j=>⟨n,l,ρ2,j,k⟩
  | bk ρ2=>cases k;exact λr j=>q O (s1.trans l) r j
  | rt d=>cases k;exact q O (s1.trans l)
 ·have e4:i=ds.length:=by omega
  subst e4;rw[List.drop_length] at k;cases k;exact .inl ⟨y.2 _ z (Kp.of s2) (Wl _),q z (s1.trans s2) v G⟩
end
def zX{K:Wb}(r:g7 K H ds b):sh K H (AM N.length ds) (L2.start N b):=by
 unfold AM L2.start;refine⟨by simp[r.length],λi d h=>?_⟩;by_cases a:i<ds.length
 ·rw[WV (by simpa using a),Wg] at h
  obtain⟨d',f,e⟩:=q8 h;cases e;obtain⟨v,h1,c⟩:=r.get f;exact⟨v,by rw[WV (by rw[V9,<- r.length];exact a),Wg,h1];rfl,c⟩
 ·rw[WI (by simpa using a),List.getElem?_replicate] at h
  split at h<;>cases h
def mj{P:Wr}{w:WC}{K:Wb}{mg:Str->V3 V5}{base:WK}{x qual:Str}{st:Xi}{f:V_}{fd:W_}{N ps:List Str}{k:Nat}{F:LD->OD}{g:R->V3 Out}
  (u:Hh K x qual st f fd) (S:sL N ps (g9 st)) (b:∀ds d,F ds=some d->ds.length=ps.length)
  (n:∀(a:V5) (A:WM) (outer:List Env) (s:V7) (H:Hp) (E:XK),rJ k (A.deeper (envOfC qual (g9 st) s.heap.objs.size f a))->SS (wY vq P w K mg base N qual (g9 st) f a A outer s H E).nox (qW st) g)
  (p:∀ds d,F ds=some d->rm (g (AM N.length ds))=some d):rM P w K mg base vq (k+1) f fd ps (NT K F):=by
 refine u.ok S (λj H Q E h=>?_) (λa A outer s H j Q E m h=>?_)
 ·obtain⟨ds,d,r,e,_⟩:=h
  rw[<- r.length];exact b ds d e
 ·obtain⟨ds,d,r,e,q⟩:=h
  refine⟨_,n a A outer s H E m,?_⟩;have z:=p ds d e;cases c:g (AM N.length ds) with
  | none=>rw[c] at z;cases z
  | some o =>
   rw[c] at z;refine⟨AM N.length ds,_,o,(zX r).t,c,λi s1=>?_⟩;cases o with
   | rt d'=>cases (show d'=d from Wq z);exact λv l=>q v i s1 l
   | nx ρ=>cases (show D.non=d from Wq z);exact λy _=>q .non i s1 rfl
   | bk ρ=>cases z
   | ct ρ=>cases z
def qL{P:Wr}{w:WC}{K:Wb}{mg:Str->V3 V5}{base:WK}{x qual:Str}{st:Xi}{f:V_}{fd:W_}{N ps:List Str}{k:Nat}{n m:Nat}{g:R->V3 Out}
  (d:Hh K x qual st f fd) (S:sL N ps (g9 st))
  (b:∀(a:V5) (A:WM) (outer:List Env) (s:V7) (H:Hp) (E:XK),rJ k (A.deeper (envOfC qual (g9 st) s.heap.objs.size f a))->SS (wY vq P w K mg base N qual (g9 st) f a A outer s H E).nox (qW st) g)
  (h1:n=ps.length:=by rfl) (c:m=N.length:=by rfl):rM P w K mg base vq (k+1) f fd ps (NT K (via n m g)):=by
 subst h1 c;exact mj d S (λ_ _ h=>cK h) b λ_ _ h=>fS h
def pI{P:Wr}{w:WC}{K:Wb}{mg:Str->V3 V5}{base:WK}{x qual:Str}{st:Xi}{f:V_}{fd:W_}{ps:List Str}{k:Nat}{F:LD->OD}(c:Hh K x qual st f fd)(a:mg x=some (.ref f))
  (b:Binds K fd ps []) (h:rM P w K mg base vq k f fd ps (NT K F)):GF P w K mg base k x ps F:=⟨f,fd,h,a,c.kp,b⟩
section
variable{X:Cx}
def Kc{prog:Wr}{w:WC}{A:WM}{E:V5->V7->Prop}{s:V7}{t b:V_}{ws:List V5}{Q:V5->V7->Prop}(o:IsTup s.heap t ([]:List V5).toArray)(p:IsTup s.heap b ws.toArray)
  (h:Q (.ref b) s):wpAny (model prog w) A (binaryOp .Add (.ref t) (.ref b)) Q E s:=by
 obtain⟨⟨cls,dd,data,l⟩,i,j,n,hd⟩:=id o;obtain⟨⟨k,f,g,e⟩,a,d,m,c⟩:=id p;simp only at j hd d c;subst j hd d c
 exact concat_meets ⟨_,i,rfl⟩ ⟨_,a,rfl⟩ noFill_tuple_add seq_tuple_add PySem.F.slot_tuple_add PySem.F.entry_tuple_add (PySem.F.args_tuple_add_2 _ _)
  (tuple_addW0 t b ([]:List V5).toArray ws.toArray n m dd f l e (by simp)) ⟨i,a,h⟩
def tM{K:Wb}{i:Int}(e:nI d=some i)(r:Rep K H d v):v=.int i:=by
 cases d<;>cases e;exact r
def RV{K:Wb}(e:tI d=some xs)(r:Rep K H d v):Rep K H (.tup xs) v:=by
 cases d<;>cases e;exact r
def S8{K:Wb}(e:lI d=some xs)(r:Rep K H d v):Rep K H (.lst xs) v:=by
 cases d<;>cases e;exact r
def HS{K:Wb}(e:sI d=some x)(r:Rep K H d v):v=.str x:=by
 cases d<;>cases e;exact r
def Pi{K:Wb}(e:bO d=some x)(r:Rep K H d v):v=.bl x:=by
 cases d<;>cases e;exact r
def Es[Decidable p](h:(if p then some x else none)=some y):p/\x=y:=by
 split at h
 ·rename_i b;exact⟨b,Wq h⟩
 ·cases h
def lX:Pv X (binaryOp .Add) n6:=by
 intro c s o H x y v u Q I m l h;obtain⟨N,dy,d,r1,A,e,q⟩:=h;cases N with
 | int i =>
  obtain⟨j,k,rfl⟩:=q8 e;exact QF c s o H x y v u Q I m l ⟨i,j,r1,tM k A,q _ H (g6.refl H) rfl⟩
 | tup xs =>
  obtain⟨F,k,e⟩:=d7 e;obtain⟨hz,rfl⟩:=Es e;obtain⟨a,w,rfl,n,t⟩:=r1;obtain⟨b,us,rfl,f,g⟩:=RV k A;cases w with
  | nil =>
   cases m;cases l;obtain⟨M,C,L,_⟩:=I.tuple n;obtain⟨G,J,K,_⟩:=I.tuple f;cases C;refine Kc L K ⟨.ref b,H,I,rfl,q _ H (g6.refl H) ⟨b,us,rfl,f,?_⟩⟩;cases xs with
   | nil=>exact g
   | cons x r=>obtain⟨_,_,z,_⟩:=t;cases z
  | cons B vr =>
   refine Ng c s o H _ _ v u Q I m l ⟨a,b,B::vr,us,rfl,rfl,n,f,by simp,by rw[<- t.length,<- g.length];exact hz,λz=>?_,λz p E=>?_⟩
   ·subst z
    refine q _ H (g6.refl H) ⟨a,B::vr,rfl,n,?_⟩;have:F=[]:=List.length_eq_zero_iff.mp g.length;subst this;rw[WT];exact t
   ·have s2:=ar E (.tup (B::vr++us))
    exact q _ _ s2 ⟨p,_,rfl,tS.of aa,(t.append g).mono s2⟩
 | lst xs =>
  obtain⟨F,k,e⟩:=d7 e;obtain⟨hz,rfl⟩:=Es e;obtain⟨a,w,rfl,n,t⟩:=r1;obtain⟨b,us,rfl,f,g⟩:=S8 k A;refine PB c s o H _ _ v u Q I m l ⟨a,b,w,us,rfl,rfl,n,f,by rw[<- t.length,<- g.length];exact hz,λp E=>?_⟩;have s2:=ar E (.lst (w++us));exact q _ _ s2 ⟨p,_,rfl,aa,(t.append g).mono s2⟩
 | str a =>
  obtain⟨b,k,e⟩:=d7 e;obtain⟨hz,rfl⟩:=Es e;exact Gn c s o H x y v u Q I m l ⟨a,b,r1,HS k A,hz,q _ H (g6.refl H) rfl⟩
 | _=>cases e
def oo:Pv X (binaryOp .Sub) uZ:=by
 intro a s b H x y v u Q I f c h;obtain⟨m,dy,d,r1,g,e,q⟩:=h;obtain⟨i,l,e⟩:=d7 e;obtain⟨j,k,rfl⟩:=q8 e;exact QS a s b H x y v u Q I f c ⟨i,j,tM l r1,tM k g,q _ H (g6.refl H) rfl⟩
def oZ:Pv X (binaryOp .Mult) wx:=by
 intro a s b H x y v u Q I f c h;obtain⟨m,dy,d,r1,g,e,q⟩:=h;obtain⟨i,l,e⟩:=d7 e;obtain⟨j,k,e⟩:=d7 e;obtain⟨hz,rfl⟩:=Es e;refine PZ a s b H x y v u Q I f c ⟨i,j,tM l r1,tM k g,?_,q _ H (g6.refl H) rfl⟩;unfold rQ at hz;rw[Bool.or_eq_true,Wj,Wj] at hz;exact hz.imp (λz=>⟨Xh z.1,Xh z.2⟩) λz=>⟨Xh z.1,Xh z.2⟩
def pk:Pv X (binaryOp .FloorDiv) uz:=by
 intro a s b H x y v u Q I f c h;obtain⟨m,dy,d,r1,g,e,q⟩:=h;obtain⟨i,l,e⟩:=d7 e;obtain⟨j,k,e⟩:=d7 e;obtain⟨hz,rfl⟩:=Es e;exact Og a s b H x y v u Q I f c ⟨i,j,tM l r1,tM k g,hz,q _ H (g6.refl H) rfl⟩
def pi:Pv X (binaryOp .Mod) rn:=by
 intro a s b H x y v u Q I f c h;obtain⟨m,dy,d,r1,g,e,q⟩:=h;obtain⟨i,l,e⟩:=d7 e;obtain⟨j,k,e⟩:=d7 e;obtain⟨hz,rfl⟩:=Es e;exact Py a s b H x y v u Q I f c ⟨i,j,tM l r1,tM k g,hz,q _ H (g6.refl H) rfl⟩
def oC:Vm X (unaryOp .USub) Tb:=by
 intro a s b H x v Q I c h;obtain⟨g,d,r1,e,q⟩:=h;obtain⟨i,f,rfl⟩:=q8 e;exact Rn a s b H x v Q I c ⟨i,tM f r1,q _ H (g6.refl H) rfl⟩
def Tv{c:CmpOp}{p:Int->Int->Bool}{F:D->D->V3 Bool}(l:yD X (compareOp c) (MR λi j=>.bl (p i j)))(m:∀x y,F x y=(nI x).bind λi=>(nI y).map λj=>p i j):Fo X c F:=by
 intro a s d H x y v u Q I g f h;obtain⟨r,dy,b,r1,k,e,q⟩:=h;rw[m] at e;obtain⟨i,o,e⟩:=d7 e;obtain⟨j,n,rfl⟩:=q8 e;exact l a s d H x y v u Q I g f ⟨i,j,tM o r1,tM n k,q⟩
def qm:Fo X .Lt RW:=Tv SM λ_ _=>rfl
def qe:Fo X .LtE F_:=Tv SZ λ_ _=>rfl
def qz:Fo X .Gt FT:=Tv Tg λ_ _=>rfl
def qw:Fo X .GtE RC:=Tv S6 λ_ _=>rfl
def FC{K:Wb}(r:Rep K H d v)(f:flat d=true):wZ v=true:=by
 cases d<;>simp[flat] at f<;>(cases (show v=_ from r);rfl)
def Oi{K:Wb}(r:Rep K H d v)(a:Rep K H e u)(f:flat d=true)(b:flat e=true):N4 v u=PH d e:=by
 cases d<;>simp[flat] at f<;>cases e<;>simp[flat] at b<;>(cases (show v=_ from r);cases (show u=_ from a);rfl)
theorem Ci{K:Wb}:∀{ds:LD} {a:List V},g7 K H ds a->ds.all flat=true->a.all wZ=true
 | [],_,h,_=>by cases (show _=[] from h);rfl
 | d::ds,_,h,f=>by
  obtain⟨v,r,rfl,q,t⟩:=h;rw[W9,Wj] at f ⊢;exact⟨FC q f.1,Ci t f.2⟩
theorem Hr{K:Wb}(c:Rep K H x a)(g:flat x=true):∀{ds:LD} {b:List V},g7 K H ds b->ds.all flat=true->Tt a b=ds.any λy=>PH y x
 | [],_,h,_=>by cases (show _=[] from h);rfl
 | d::ds,_,h,f=>by
  obtain⟨v,r,rfl,q,t⟩:=h;rw[W9,Wj] at f;have e:=Hr c g t f.2;unfold Tt at e ⊢;rw[List.any_cons,List.any_cons,Oi q c f.1 g,e]
def CJ{K:Wb}(r:Rep K H d v)(e:F3 d=some b):∃p xs,v=.ref p/\(uI K H p xs\/tS K H p xs)/\g7 K H b xs:=by
 cases d with
 | tup ds=>cases e;obtain⟨a,xs,rfl,q,t⟩:=r;exact⟨a,xs,rfl,.inr q,t⟩
 | lst ds=>cases e;obtain⟨a,xs,rfl,q,t⟩:=r;exact⟨a,xs,rfl,.inl (uI.of q),t⟩
 | fro ds=>cases e;obtain⟨a,xs,rfl,q,t⟩:=r;exact⟨a,xs,rfl,.inl q,t⟩
 | _=>cases e
def qa:Fo X .In S3:=by
 intro a s d H x y v u Q I g f h;obtain⟨m,dy,b,r1,i,e,q⟩:=h;obtain⟨l,k,e⟩:=d7 e;obtain⟨p,xs,rfl,j,t⟩:=CJ i k;split at e
 ·rename_i c
  rw[Wj] at c;cases e;refine Js a s d H x _ v u Q I g f ⟨p,xs,rfl,j,FC r1 c.1,Ci t c.2,?_⟩;rw[Hr r1 c.1 t c.2];exact q
 ·cases e
def Ar{K:Wb}(r:Rep K H d v):M6 d=decide (v=.non):=by
 cases d with
 | tup c=>obtain⟨_,_,rfl,_⟩:=r;rfl
 | lst c=>obtain⟨_,_,rfl,_⟩:=r;rfl
 | fro c=>obtain⟨_,_,rfl,_⟩:=r;rfl
 | obj k a ks ds=>cases (show v=_ from r);rfl
 | dct ks ds=>obtain⟨_,_,rfl,_⟩:=r;rfl
 | dcp ks ds=>obtain⟨_,_,_,rfl,_⟩:=r;rfl
 | cl t a ds=>obtain⟨rfl,_⟩:=r;rfl
 | _=>cases (show v=_ from r);rfl
def Ih{K:Wb}(r:Rep K H d v)(h:M6 d=true):v=.non:=by
 rw[Ar r] at h;exact Xh h
def qf:Fo X .Is xZ:=by
 intro a s c H x y v u Q I f d h;obtain⟨i,dy,b,r1,g,e,q⟩:=h;obtain⟨h1,rfl⟩:=Es e;exact P3 a s c H x y v u Q I f d ⟨Ih g h1,by rw[<- Ar r1];exact q⟩
def lK:Fo X .IsNot uQ:=by
 intro a s c H x y v u Q I f d h;obtain⟨j,dy,b,r1,g,e,q⟩:=h;obtain⟨k,i,rfl⟩:=q8 e;obtain⟨h1,rfl⟩:=Es i;exact M7 a s c H x y v u Q I f d ⟨Ih g h1,by rw[<- Ar r1];exact q⟩
def l_:Pb X (.builtin "len") rY:=DN.imp λxs H Q a=>by
 obtain⟨ds,d,r,e,q⟩:=a;obtain⟨x,rfl,e⟩:=tX e;obtain⟨j,i,h⟩:=q8 e;subst h;obtain⟨v,f,rfl,r1,c⟩:=r;cases (show f=[] from c);obtain⟨p,b,rfl,g,t⟩:=CJ r1 i;exact⟨p,b,rfl,g,q _ H (g6.refl H) (by show V.int _=V.int _;rw[t.length])⟩
def Lg(e:tu l=some r):∃a,(l=[.tup a]\/l=[.lst a])/\r=.tup a:=by
 obtain⟨x,rfl,e⟩:=tX e;obtain⟨a,e,rfl⟩:=q8 e;cases x<;>cases e
 ·exact⟨_,.inl rfl,rfl⟩
 ·exact⟨_,.inr rfl,rfl⟩
def QU(e:Dx l=some r):∃i,l=[.int i]:=by
 obtain⟨x,rfl,e⟩:=tX e;obtain⟨a,e,_⟩:=d7 e;cases BX e;exact⟨_,rfl⟩
def Qg(e:Jl l=some r):∃a,l=[.lst a]:=by
 obtain⟨x,rfl,e⟩:=tX e;obtain⟨a,e,_⟩:=d7 e;cases DK e;exact⟨_,rfl⟩
def kR:Pb X (.type "tuple") tu:=BV.imp λxs H Q h=>by
 obtain⟨ds,d,r,e,q⟩:=h;obtain⟨j,rfl | rfl,rfl⟩:=Lg e
 ·obtain⟨v,g,rfl,⟨a,b,rfl,c,t⟩,f⟩:=r
  cases (show g=[] from f);exact⟨a,b,rfl,.inr ⟨c,q _ H (g6.refl H) ⟨a,b,rfl,c,t⟩⟩⟩
 ·obtain⟨v,g,rfl,⟨a,b,rfl,c,t⟩,f⟩:=r
  cases (show g=[] from f);exact⟨a,b,rfl,.inl ⟨uI.of c,λl i=>q _ _ (ar i _) ⟨l,b,rfl,tS.of aa,t.mono (ar i _)⟩⟩⟩
def pj:Pb X (.type "str") Dx:=DX.imp λxs H Q a=>by
 obtain⟨ds,d,r,e,q⟩:=a;obtain⟨i,rfl⟩:=QU e;have b:(if i.natAbs.log2<1920 then some (D.str (toString i)) else none)=some d:=e;split at b
 ·rename_i hz
  cases b;obtain⟨v,f,rfl,r1,c⟩:=r;cases (show f=[] from c);cases (show v=_ from r1);exact⟨i,rfl,hz,q _ H (g6.refl H) rfl⟩
 ·cases b
theorem CC{K:Wb}:∀{ds:LD} {bs:List Bool} {a:List V} {us:List V5},bools ds=some bs->g7 K H ds a->qP a us->us=bs.map .bool
 | [],_,_,_,e,h,r=>by
  cases e;cases (show _=[] from h);cases r;rfl
 | d::ds,_,_,_,e,h,r=>by
  cases d with
  | bl b =>
   obtain⟨i,g,f⟩:=q8 e;subst f;obtain⟨v,j,rfl,r1,c⟩:=h;cases (show v=_ from r1);cases r with
   | cons q t =>
    cases q;rw[CC g c t];rfl
  | _=>cases e
def pT(J:X.calm=true):Pb X (.builtin "all") Jl:=by
 intro l s P H xs us Q I r h;obtain⟨ds,d,rs,e,q⟩:=h;obtain⟨S,rfl⟩:=Qg e;obtain⟨bs,O,N⟩:=q8 e;subst N;obtain⟨v,C,rfl,⟨a,T,rfl,E,t⟩,B⟩:=rs;cases (show C=[] from B);obtain⟨u,rfl,y⟩:=vals1 r;cases y;obtain⟨z,c,n,x,W,w⟩:=I.lstM E;have g:=CC O t x;have f:s.heap.IsList a c.toArray:=⟨_,w,rfl,n,rfl⟩
 have k:a<s.heap.objs.size:=Wp w;refine call_all_walk (wpAny_pyIter_list f ?_)
 refine⟨s.heap.objs.size,[s.heap.objs.size,a],[s.heap.objs.size],c.toArray.size,_,_,λi=>(bs[i]?).getD true,rfl,Walks.list (A:=X.A.in1) (I.ok.hd J) _ a (WA k) c.toArray,
  ⟨⟨_,Wf _ rfl,rfl,rfl⟩,f.push _⟩,λi v U Y Z K p=>?_,λh' tk G=>?_⟩
 ·have m:c[i]?=some v:=by simpa using K
  rw[g,Wg] at m;obtain⟨b,j,L⟩:=q8 m;subst L;simp only[j,Option.getD_some] at p;exact wpAny_truthy_bool p
 ·have M:((List.range c.toArray.size).all λi=>(bs[i]?).getD true)=bs.all id:=by
   rw[Wy,g,V9];exact LSm.range_all bs
  rw[M];refine⟨.bl (bs.all id),H,I.kept (t':=tk) λb o j=>G b o ?_ (V6 _ j),rfl,q _ H (g6.refl H) rfl⟩;intro F;rw[Wh.mp F] at j;exact Xf _ (Wp j)
def Qi(I:L2.Inv X g m H s)(b:RelV x u)(r:Rep X.K H d x)(C:Ny d=false)
  (e:W.kitOne X.K (.type (Nu d)) (.type n)=some (Pd d n)) (h:∀tk,Q (.bool (Pd d n)) {s with toks:=tk}):wpAny (model X.prog X.w) X.A (call (.builtin "isinstance") [u,.type n]) Q E s:=by
 cases d with
 | non=>cases (show x=_ from r);cases b;exact W.kia_one W.kitx_none I.kIn True.intro e (λz=>nomatch z) h
 | bl y=>cases (show x=_ from r);cases b;exact W.kia_one W.kitx_bool I.kIn True.intro e (λz=>nomatch z) h
 | int i=>cases (show x=_ from r);obtain⟨t,rfl⟩:=b;exact W.kia_one W.kitx_int I.kIn True.intro e (λz=>nomatch z) h
 | str y=>cases (show x=_ from r);obtain⟨t,rfl⟩:=b;exact W.kia_one W.kitx_str I.kIn True.intro e (λz=>nomatch z) h
 | tup ds =>
  obtain⟨a,f,rfl,c,t⟩:=r;cases b;obtain⟨l,_,⟨o,h1,j,_⟩,_⟩:=I.tuple c;exact W.kia_one W.kitx_tuple I.kIn ⟨o,h1,j⟩ e (λz=>nomatch z) h
 | lst ds =>
  obtain⟨a,f,rfl,c,t⟩:=r;cases b;obtain⟨_,_,n,_,_,h1⟩:=I.lstM c;exact W.kia_one W.kitx_list I.kIn ⟨_,h1,rfl⟩ e (λz=>nomatch z) h
 | fro ds =>
  obtain⟨a,f,rfl,c,t⟩:=r;cases b;obtain⟨l,_,⟨o,n,h1,j,G,F⟩,_⟩:=I.list c;exact W.kia_one W.kitx_list I.kIn ⟨o,h1,j⟩ e (λz=>nomatch z) h
 | obj k a ks ds=>cases C
 | cl t a ds =>
  obtain⟨rfl,cl,xs,pm,ctv,c',h1,_⟩:=r;cases b;exact W.kia_one NY I.kIn ⟨_,(I.hok a _ h1).1,rfl⟩ e (λz=>nomatch z) h
 | dct ks ds =>
  obtain⟨a,f,rfl,⟨_,_,c⟩,t⟩:=r;cases b;obtain⟨_,_,q,_,p⟩:=(show rO X.prog X.w H s.heap a (.dK (ks.zip f)) from(I.hok a _ c).2)
  obtain⟨o,es,J,h1,j,_⟩:=p;exact W.kia_one W.kitx_dict I.kIn ⟨o,h1,j.1⟩ e (λz=>nomatch z) h
 | dcp ks ds =>
  obtain⟨a,v,f,rfl,⟨_,o,_,_,c,_,_,_,_,_,B,_⟩,t⟩:=r;cases b;exact W.kia_one W.kitx_dict I.kIn ⟨o,(I.hok a _ c).1,B.1⟩ e (λz=>nomatch z) h
def CP(K:Wb)(n:String):Prop:=∀d:D,Ny d=false->W.kitOne K (.type (Nu d)) (.type n)=some (Pd d n)
def M8(K:Wb):CP K "int":=λd h=>by cases d<;>first | rfl | cases h
def KW(K:Wb):CP K "bool":=λd h=>by cases d<;>first | rfl | cases h
def NL(K:Wb):CP K "str":=λd h=>by cases d<;>first | rfl | cases h
def kit_tuple(K:Wb):CP K "tuple":=λd h=>by cases d<;>first | rfl | cases h
def isi_call(g:CP X.K n):CallR X (.builtin "isinstance") (λxs H Q=>∃d x,xs=[x,.ty n]/\Rep X.K H d x/\Ny d=false/\Q (.bl (Pd d n)) H):=by
 intro b s i H xs us Q I r h;obtain⟨d,x,rfl,f,c,q⟩:=h;obtain⟨u,j,rfl,e,a⟩:=vals2 r;cases a;exact Qi I e f c (g d c) λtk=>⟨.bl (Pd d n),H,I.tok tk,rfl,q⟩
def kB(r:X.mg "isinstance" = none)(i:X.mg x=none)(u:SE X a f)(s:CP X.K n:=by first | exact M8 _ | exact KW _ | exact NL _ | exact kit_tuple _ | exact kit_list _)(l:bootBuiltins x=some (.type n):=by kernel_rfl)
  (t:Gl X "isinstance":=by rfl) (j:Gl X x:=by rfl) (o:x ≠ "__name__":=by decide) (hd:(x==("__debug__" : Str))=false:=by decide)
  (b:noStar a=true:=by rfl) (h:bootBuiltins "isinstance" = some (.builtin "isinstance"):=by kernel_rfl) :
  SE X (.Call (.Name "isinstance" p) [a,.Name x c] [] pos) (Qq n f):=
 (iy (isi_call s) t r h (cM u (cM (nQ (v:=.ty n) j i l rfl o hd) GO) (ad [.Name x c] X.env b)) (by decide) (by decide) (ad [.Name x c] X.env b) rfl).imp λB H Q g=>by
  obtain⟨ρ,d,w,e,q⟩:=g;obtain⟨y,z,k⟩:=d7 e;split at k
  ·cases k
  ·rename_i m
   cases k;exact⟨ρ,y,w,z,λv A s1 r1=>⟨y,v,rfl,r1,by simpa using m,q _ A s1 rfl⟩⟩
def qK{k:Nat}(p:rJ k X.A):Fo X .Eq zo:=by
 intro a s f H x y v u Q I n m h;obtain⟨o,dy,b,r1,d,e,q⟩:=h;have sc:Oz x y=true->decide (x=y)=b->wpAny (model X.prog X.w) X.A (compareOp .Eq v u) (EP X a f Q) X.xe s:=λl g=>SU a s f H x y v u Q I n m ⟨l,by rw[g];exact q⟩
 cases o with
 | int i=>obtain⟨j,c,e⟩:=q8 e;cases (show x=_ from r1);cases tM c d;exact sc rfl (zS.trans e)
 | str i=>obtain⟨j,c,e⟩:=q8 e;cases (show x=_ from r1);cases HS c d;exact sc rfl (zV.trans e)
 | bl i=>obtain⟨j,c,e⟩:=q8 e;cases (show x=_ from r1);cases Pi c d;exact sc rfl (DB.trans e)
 | _=>cases e
def qd{k:Nat}(t:rJ k X.A):Fo X .NotEq EE:=by
 intro a s g H x y v u Q I p o h;obtain⟨r,dy,b,r1,f,l,q⟩:=h;obtain⟨c,e,rfl⟩:=q8 l;clear l;have sc:Oz x y=true->decide (x=y)=c->wpAny (model X.prog X.w) X.A (compareOp .NotEq v u) (EP X a g Q) X.xe s:=λn m=>SY a s g H x y v u Q I p o ⟨n,by rw[m];exact q⟩
 cases r with
 | int i=>obtain⟨j,d,e⟩:=q8 e;cases (show x=_ from r1);cases tM d f;exact sc rfl (zS.trans e)
 | str i=>obtain⟨j,d,e⟩:=q8 e;cases (show x=_ from r1);cases HS d f;exact sc rfl (zV.trans e)
 | bl i=>obtain⟨j,d,e⟩:=q8 e;cases (show x=_ from r1);cases Pi d f;exact sc rfl (DB.trans e)
 | _=>cases e
variable{a:WG}{f:R->OD}{pos p2:Pos}{lo hi:V3 WG}{l h:R->V3 (V3 Int)}
def mH:SO X none MQ:=OG.imp λc H Q b=>by
 obtain⟨ρ,o,d,e,q⟩:=b;cases e;exact q H (g6.refl H)
def nt(d:SE X a f):SO X (some a) (aP f):=(Ni d).imp λm H Q b=>by
 obtain⟨ρ,o,g,e,q⟩:=b;obtain⟨x,j,c⟩:=d7 e;refine⟨ρ,x,g,j,λv k s1 r1=>?_⟩;cases x with
 | int i=>cases c;exact⟨i,r1,q k s1⟩
 | _=>cases c
def HH(n d:Nat)(o:V3 Int):KP n d o=HT.sIx n d o:=rfl
def BN{lo hi:V3 Int}(d:IsTup s.heap t b)(p:s.heap.IsSliceOf e n k .none)(r:IsPart n lo)(q:IsPart k hi)
  (o:HT.sIx b.size 0 lo=0/\HT.sIx b.size b.size hi=b.size) (h:Q (.ref t) s):wpAny (model prog w) A (getItem (.ref t) (.ref e)) Q E s:=by
 obtain⟨os,g,i,u⟩:=id p;have j:s.TypeIs (.ref e) "slice":=⟨os,g,i⟩
 unfold getItem
 try with_reducible refine wpAny_holding ?_
 first | refine V4 (V8 ?_) | skip
 refine V4 (wpAny_sequenceKey d.typeIs (by decide) ?_)
 refine V4 (wpAny_callSpecial?_slot (name:=oS "__getitem__") d.typeIs PyProof.Rows.slot_tuple_getitem
  (wpAny_call_entry PyProof.Rows.slot_tuple_getitem d.typeIs entry_tuple_getitem ?_ (args_tuple_getitem _ _)))
 show wpAny _ _ (Builtin.Tuple.tupleItemsOf (.ref t) >>= _) _ _ s;refine V4 (tupleItemsOf_ d ?_);refine V4 (wpAny_typeOf j ?_);rw[Wc (by decide)];refine V4 (HT.sliceApplied_gen p r q ?_)
 have c:((((HT.sIx b.size 0 lo:Nat):Int)==0&&(1:Int)==1&&(HT.sIx b.size b.size hi - HT.sIx b.size 0 lo)==b.size)=true):=by
  rw[o.1,o.2];simp
 show wpAny _ _ (if (((HT.sIx b.size 0 lo:Nat):Int)==0&&(1:Int)==1&&(HT.sIx b.size b.size hi - HT.sIx b.size 0 lo)==b.size)=true then _ else _) _ _ s;rw[Wc c];refine V4 (m:=Builtin.Tuple.tupleIsExact _) (V4 (wpAny_typeOf d.typeIs (V8 ?_)));rw[Wc (by decide)];exact V4 (wpAny_rule (V8 ⟨_,rfl,V8 h⟩))
def GN{lo hi:V3 Int}(h:HT.sIx xs.length 0 lo=0/\HT.sIx xs.length xs.length hi=xs.length):zN xs lo hi=xs:=by
 unfold zN;rw[h.1,h.2,List.drop_zero,Nat.sub_zero,List.take_length]
def Uu(K:Wb):V->V3 Int->V3 Int->Hp->VK->Prop:=λx lo hi H Q=>∃a xs,x=.ref a/\tS K H a xs/\∀p b,g6 H b->tS K b p (zN xs lo hi)->Q (.ref p) b
def QD:Pn X (Uu X.K):=by
 intro b s o H x v u t lo hi w Q I i n k j h;obtain⟨a,xs,rfl,e,q⟩:=h;by_cases g:HT.sIx xs.length 0 lo=0/\HT.sIx xs.length xs.length hi=xs.length
 ·cases i
  obtain⟨d,r,m,hz⟩:=I.tuple e;have c:d.toArray.size=xs.length:=by rw[Wy];exact r.length.symm
  refine⟨"tuple",_,PyProof.Rows.slot_tuple_getitem.lookup,m.typeIs,?_⟩;exact BN m n k j (by rw[c];exact g) ⟨.ref a,H,I,rfl,q a H (g6.refl H) (by rw[GN g];exact e)⟩
 ·exact P8 b s o H (.ref a) v u t lo hi w Q I i n k j ⟨a,xs,rfl,e,g,λp y=>q p _ (ar y _) (tS.of aa)⟩
def jM{K:Wb}(t:g7 K H ds xs)(lo hi:V3 Int):g7 K H (cutD ds lo hi) (zN xs lo hi):=by
 unfold cutD zN;rw[t.length,HH,HH];exact(t.drop _).take _
def kO(s:SE X a f)(o:SO X lo l)(r:SO X hi h):SE X (.Subscript a (.Slice lo hi none p2) pos) (Jp f l h):=(li (QD.or Nr) s o r).imp λA H Q i=>by
 obtain⟨ρ,d,k,e,q⟩:=i;obtain⟨x,y,e⟩:=d7 e;obtain⟨g,w,e⟩:=d7 e;obtain⟨c,u,e⟩:=d7 e;refine⟨ρ,x,k,y,λv E s1 r1=>⟨ρ,g,k.mono s1,w,λC s2=>⟨ρ,c,k.mono (s1.trans s2),u,λB s3=>?_⟩⟩⟩;cases x with
 | tup xs =>
  cases e;obtain⟨a,b,rfl,j,t⟩:=(r1.mono (s2.trans s3))
  exact .inl ⟨a,b,rfl,j,λp z s4 m=>q _ z (s1.trans (s2.trans (s3.trans s4))) ⟨p,_,rfl,m,(jM t g c).mono s4⟩⟩
 | lst xs =>
  cases e;obtain⟨a,b,rfl,j,t⟩:=(r1.mono (s2.trans s3))
  refine .inr ⟨a,b,rfl,uI.of j,λp n=>?_⟩;have s4:=ar n (.lst (zN b g c));exact q _ _ (s1.trans (s2.trans (s3.trans s4))) ⟨p,_,rfl,aa,(jM t g c).mono s4⟩
 | _=>cases e
theorem ik:∀{xs:List V} {us:List V5},qP xs us->qP xs.reverse us.reverse
 | _,_,.nil=>.nil
 | _,_,.cons r t=>by
  rw[List.reverse_cons,List.reverse_cons];exact(ik t).append (.cons r .nil)
end
set_option maxHeartbeats 2000000
noncomputable def ua(names:List (Str×NameKind))(a:List (Str×V_))(b:List (Str×V_)):List (Str×V_):=
 match names with
 | []=>b
 | (n,k)::r=>ua r a (if k==.free then (match a.lookup n with | some c=>(n,c)::b | none=>b) else b)
theorem xD:∀ (names:List (Str×NameKind)) (a:List (Str×V_)),(∀ p∈names,p.2=.free->∃ c,env.cells.lookup p.1=some c) ->
    (forIn names a λx r=>(match x with
      | (name,kind)=>if (kind==NameKind.free)=true then do
          let c <- cellOf env name
          pure (ForInStep.yield ((name,c)::r))
        else pure (ForInStep.yield r):Sem (ForInStep (List (Str×V_)))))=(pure (ua names env.cells a):Sem (List (Str×V_)))
  | [],a,_=>rfl
  | (n,k)::r,a,h=>by
    rw[List.forIn_cons];cases f:(k==NameKind.free) with
    | false =>
      have d:=xD r a λp e=>h p (Wt _ e)
      simp only[f,ua,Bool.false_eq_true,if_false];exact d
    | true =>
      obtain⟨c,g⟩:=h (n,k) Ws (by simpa using f);have d:=xD r ((n,c)::a) λp e=>h p (Wt _ e)
      have b:cellOf env n=pure c:=by unfold cellOf;rw[show env.cells.lookup n=some c from g]
      simp only[f,ua,if_true,b,show env.cells.lookup n=some c from g];exact d
def Gu(h:∀p∈scope.names,p.2=.free->∃c,env.cells.lookup p.1=some c):closureFor scope env=pure (ua scope.names env.cells []):=by
 unfold closureFor;have:=xD scope.names [] h;simp only[bind_pure];exact this
def uC{a:Type}{y n:Str}{c:a}{l:List (Str×a)}:List.lookup y ((n,c)::l)=if y=n then some c else List.lookup y l:=by
 rw[List.lookup_cons];by_cases h:y=n
 ·subst h;simp
 ·have:(y==n)=false:=by simpa using h
  rw[this,Wu h]
theorem Ad:∀(names:List (Str×NameKind)) (b:List (Str×V_)),(∀y c,b.lookup y=some c->a.lookup y=some c)->∀y c,(ua names a b).lookup y=some c->a.lookup y=some c
 | [],b,h=>h
 | (n,k)::r,b,h=>by
  unfold ua;refine Ad r _ ?_;split
  ·cases f:a.lookup n with
   | none=>exact h
   | some c0 =>
    intro y c d;rw[uC] at d;split at d
    ·rename_i e
     subst e;cases d;exact f
    ·exact h y c d
  ·exact h
theorem CL:∀(names:List (Str×NameKind)) (b:List (Str×V_)),(b.lookup y).isSome=true->((ua names a b).lookup y).isSome=true
 | [],b,h=>h
 | (n,k)::r,b,h=>by
  unfold ua;refine CL r _ ?_;split
  ·cases c:a.lookup n with
   | none=>exact h
   | some c0 =>
    dsimp only;rw[uC];split
    ·rfl
    ·exact h
  ·exact h
theorem FE(d:a.lookup y=some c):∀(names:List (Str×NameKind)) (b:List (Str×V_)),(y,NameKind.free)∈names->((ua names a b).lookup y).isSome=true
 | (n,k)::r,b,h=>by
  unfold ua;rcases Wo.mp h with e | h
  ·cases e
   refine CL r _ ?_;rw[Wc (show(NameKind.free==NameKind.free)=true by decide),d];dsimp only;rw[uC,Wc rfl];rfl
  ·exact FE d r _ h
def OE(b:a.lookup y=some c)(h:(y,NameKind.free)∈names):(ua names a []).lookup y=some c:=by
 obtain⟨c',e⟩:=Option.isSome_iff_exists.mp (FE b names [] h);have:=Ad names [] (λy c h=>by cases h) y c' e;rw[b] at this;cases this;exact e
theorem AO{env:Env}{y:Str}:∀(names:List (Str×NameKind)),(names.map λ(n,k)=>if (k==NameKind.free&&env.scope.kind==.function&&env.kindOf n==some .cell) then (n,NameKind.cell) else (n,k)).lookup y =
  (names.lookup y).map λk=>if (k==NameKind.free&&env.scope.kind==.function&&env.kindOf y==some .cell) then NameKind.cell else k
 | []=>rfl
 | (n,k)::r=>by
  have hd:∀(c:Bool),(if c=true then (n,NameKind.cell) else (n,k))=(n,if c=true then NameKind.cell else k):=λc=>by cases c<;>rfl
  rw[Ww];show List.lookup y ((if (k==NameKind.free&&env.scope.kind==.function&&env.kindOf n==some .cell)=true then (n,NameKind.cell) else (n,k))::_)=_;rw[hd,uC,uC];by_cases e:y=n
  ·subst e
   rw[Wc rfl,Wc rfl];rfl
  ·rw[Wu e,Wu e]
   exact AO r
noncomputable def wF(sc outer:Scope)(T N:List Str):Bool:=
 sc.kind==.function&&(sc.names.all λp=>p.2 != .cell&&(p.2 != .local||(sc.names.lookup p.1==some .local&&(T.contains p.1||p.1==(".0" : Str))))&&(p.2 != .free||outer.names.lookup p.1==some .cell||outer.names.lookup p.1==some .free)) &&
  (T.all λt=>sc.names.lookup t==some .local)&&!N.contains (".0" : Str)
structure Dz (sc outer:Scope) (T N:List Str):Prop where
 kind:sc.kind=.function
 nocell:∀y∈sc.names,y.2≠.cell
 names:∀y∈sc.names,y.2=.local->sc.names.lookup y.1=some .local
 loc:∀y,sc.names.lookup y=some .local->y∈T\/y=(".0" : Str)
 free:∀y∈sc.names,y.2=.free->outer.names.lookup y.1=some .cell\/outer.names.lookup y.1=some .free
 tg:∀t∈T,sc.names.lookup t=some .local
 no0:(".0" : Str)∉N
def CG(h:wF sc outer T N=true):Dz sc outer T N:=by
 unfold wF at h;rw[Wj,Wj,Wj] at h;obtain⟨⟨⟨h1,i⟩,f⟩,l⟩:=h;rw[Xe] at i f
 have g:∀y∈sc.names,y.2≠.cell/\(y.2=.local->sc.names.lookup y.1=some .local/\(y.1∈T\/y.1=(".0" : Str)))/\(y.2=.free->outer.names.lookup y.1=some .cell\/outer.names.lookup y.1=some .free):=λy a=>by
  have q:=i y a;rw[Wj,Wj] at q;obtain⟨⟨j,e⟩,d⟩:=q;refine⟨by simpa using j,λb=>?_,λc=>?_⟩
  ·rw[b] at e
   simpa using e
  ·rw[c] at d
   simpa using d
 refine⟨by simpa using h1,λy a=>(g y a).1,λy a b=>((g y a).2.1 b).1,λy a=>?_,λy a c=>(g y a).2.2 c,λt k=>by simpa using f t k,by simpa using l⟩;exact((g (y,.local) (Xd a)).2.1 rfl).2
def GK(X:Cx)(H:Hp):Prop:=∀b q c,X.H₀ b=some (.tbl q c)->H b=some (.tbl q c)
def yS(X:Cx)(T:List Str)(scope:Scope)(C:V_)(fp:List V_)(a:V7)(b:Hp):Cx where
 prog:=X.prog
 w:=X.w
 K:=X.K
 mg:=X.mg
 base:=X.base
 A:=X.A
 N:=T++X.N
 s₀:=a
 H₀:=b
 env:=compEnvC scope (ua scope.names X.env.cells []) C X.env
 outer:=X.stack
 stack:=X.stack
 ex:=fp
 fn:=λ_=>false
 calm:=X.calm
 pn:=[]
 xe:=λ_ _=>False
section
variable{X:Cx}{pins:List (V_×Obj)}{σ:L2.St}{H:Hp}{s:V7}{T:List Str}{scope:Scope}{C:V_}{fp:List V_}{h₁:WK}{t:Nat}
def Li(I:L2.Inv X pins σ H s)(E:Dz scope X.env.scope T X.N)(F:(T++X.N).Nodup)(O:∀b∈fp,vP X pins H b)(Y:∀b∈fp,∃o,s.heap.get? b=some o)(hC:s.heap.objs.size<=C)
  (M:∀b u,s.heap.get? b=some u->h₁.get? b=some u) (S:h₁.Ns C (λ_=>none)) :
  L2.Inv (yS X T scope C fp s H) [] (List.replicate T.length none++σ) H {s with heap:=h₁,toks:=t}:=by
 have W:∀b∈fp,b<s.heap.objs.size:=λb n=>let ⟨o,e⟩:=Y b n;Wp e
 have hcl:∀y c,(ua scope.names X.env.cells []).lookup y=some c->X.env.cells.lookup y=some c:=Ad scope.names [] λy c h=>by cases h
 have J:∀y,(y,NameKind.free)∈scope.names->(X.env.kindOf y=some .cell\/X.env.kindOf y=some .free)/\∃c,(ua scope.names X.env.cells []).lookup y=some c/\X.env.cells.lookup y=some c:=λy f=>by
  have k:=E.free _ f rfl;obtain⟨c,hc⟩:=I.ok.has y k;exact⟨k,c,OE hc f,hc⟩
 have d:∀y,(compEnvC scope (ua scope.names X.env.cells []) C X.env).kindOf y=(scope.names.lookup y).map λk=>if (k==NameKind.free&&X.env.scope.kind==.function&&X.env.kindOf y==some .cell) then NameKind.cell else k:=λy=>AO scope.names
 have g:∀y,((compEnvC scope (ua scope.names X.env.cells []) C X.env).kindOf y=some .cell\/(compEnvC scope (ua scope.names X.env.cells []) C X.env).kindOf y=some .free)->(y,NameKind.free)∈scope.names:=λy f=>by
  rw[d] at f;cases l:scope.names.lookup y with
  | none=>rw[l] at f;rcases f with z | z<;>cases z
  | some k =>
   have U:=Xd l;rw[l] at f;cases k with
   | free=>exact U
   | cell=>exact Wz rfl (E.nocell _ U)
   | «local»=>rcases f with z | z<;>cases z
   | globalExplicit=>rcases f with z | z<;>cases z
   | globalImplicit=>rcases f with z | z<;>cases z
 refine⟨⟨I.ok.mod,E.kind,I.ok.glob,I.ok.blt,hC,λx y c h1 B=>I.ok.inj x y c (hcl x c h1) (hcl y c B),λy f=>?_,λy c h=>Wz (show false=true from h) We,I.ok.hd,I.ok.frames,.inl rfl,λb n=>⟨?_,λx c h=>?_⟩,I.bs,
  WD I.ok.bsz I.sz,λb o e n=>?_,λb n hz=>?_,I.stack,I.stkFree⟩,rfl,I.bare,Un.kept M,⟨_,S,λi x v h1 B h3=>?_⟩,λy c h=>?_,I.hok.fresh hC,λy c h=>I.freeC y c (hcl y c h),λp hp=>Wz (show p∈([]:List (V_×Obj)) from hp) (by simp),I.hok.kept M,?_⟩
 ·obtain⟨_,c,h1,_⟩:=J y (g y f)
  exact⟨c,h1⟩
 ·exact WA (Wv (W b n) hC)
 ·exact(O b n).2.2.2.2.1 x c (hcl x c h)
 ·rcases(O b n).2.2.2.1 with z | z
  ·exact I.ok.noex b o e z
  ·exact Wz (Wv (Wp e) (WD I.ok.bsz z)) (Xf _)
 ·rcases Wo.mp (I.stkSub b hz) with z | z
  ·exact(O b n).2.1 z
  ·exact(O b n).2.2.1 z
 ·by_cases hi:i<T.length
  ·rw[WV (by simpa using hi),List.getElem?_replicate] at B
   split at B<;>cases B
  ·rw[WI (by simpa using hi),List.length_replicate] at B
   have L:X.N[i - T.length]?=some x:=by
    have z:(T++X.N)[i]?=some x:=h1;rw[WI (by omega)] at z;exact z
   have j:x∈X.N:=Wi L
   have P:(x,NameKind.free)∈scope.names:=by
    rcases h3 with z | z | z
    ·have a:(compEnvC scope (ua scope.names X.env.cells []) C X.env).kindOf x=some .local:=z
     rw[d] at a;cases l:scope.names.lookup x with
     | none=>rw[l] at a;cases a
     | some k =>
      rw[l] at a
      have w:k=.local:=by
       cases k with
       | «local»=>rfl
       | free=>simp at a;split at a<;>cases a
       | cell=>cases a
       | globalExplicit=>cases a
       | globalImplicit=>cases a
      subst w;rcases E.loc x l with q | q
      ·exact Wz rfl ((List.nodup_append.mp F).2.2 x q x j)
      ·exact Wz (q ▸ j) E.no0
    ·exact g x (.inl z)
    ·exact g x (.inr z)
   obtain⟨G,c,hc1,Z⟩:=J x P;obtain⟨m,U,l⟩:=I.loc;obtain⟨u,ru,lk⟩:=l _ x v L B (G.elim (λz=>.inr (.inl z)) λz=>.inr (.inr z));refine⟨u,ru,.inr ⟨?_,c,hc1,?_⟩⟩
   ·rcases h3 with z | z | z
    ·exfalso
     have a:(compEnvC scope (ua scope.names X.env.cells []) C X.env).kindOf x=some .local:=z;rw[d] at a;cases r:scope.names.lookup x with
     | none=>rw[r] at a;cases a
     | some k =>
      rw[r] at a
      have w:k=.local:=by
       cases k with
       | «local»=>rfl
       | free=>simp at a;split at a<;>cases a
       | cell=>cases a
       | globalExplicit=>cases a
       | globalImplicit=>cases a
      subst w;rcases E.loc x r with q | q
      ·exact Wz rfl ((List.nodup_append.mp F).2.2 x q x j)
      ·exact Wz (q ▸ j) E.no0
    ·exact .inl z
    ·exact .inr z
   ·rcases lk with ⟨kl,_⟩ | ⟨_,c',K,A⟩
    ·rcases G with z | z
     ·rw[kl] at z;cases z
     ·rw[kl] at z;cases z
    ·rw[Z] at K
     cases K;obtain⟨o,Q,hd⟩:=A;exact⟨o,M _ _ Q,hd⟩
 ·obtain⟨v,o,Q,hd⟩:=I.cell y c (hcl y c h)
  exact⟨v,o,M _ _ Q,hd⟩
 ·show(List.replicate T.length none++σ).length=(T++X.N).length
  rw[WB,WB,List.length_replicate,I.len]
end
def DC (I:Nat->V7->Prop)
    (y:∀n s,I n s->wpAny (model prog w) A (pyNext it) (λr f=>match r with
      | none=>G (.ok .next) f
      | some v=>wpAny (model prog w) A (letOwnedTupleGo b it v) (λ_ e=>wpAny (model prog w) A (assign b env v) (λ_ j =>
          wpAny (model prog w) A (forIn o true λc r=>if r=true then do let ok <- isTrue c env (eval c env);pure (ForInStep.yield ok) else pure (ForInStep.yield r)) (λok d =>
            if ok=true then wpAny (model prog w) A (eval q env) (λx i =>
              wpAny (model prog w) A (call (.builtin "list.append") [t,x]) (λ_ g=>∃m,m<n/\I m g) (λ_ _=>False) i) (λ_ _=>False) d
            else ∃m,m<n/\I m d) (λ_ _=>False) j) (λ_ _=>False) e) (λ_ _=>False) f) (λ_ _=>False) s)
    (n:Nat) (h:I n s):codeAny (model prog w) A (.compLoop (.ListComp q [⟨b,iter,o,0⟩] scope pos) 0 it t env) G s:=by
  refine codeAny_loop rfl I (λn s hI=>?_) n h;show wpAny _ A ((compTurn (.ListComp q [⟨b,iter,o,0⟩] scope pos) 0 it t env).onRaise (λx=>do noteFrame x env;theTreesLotGoes x)) _ _ s;refine wpAny_noted ?_;rw[compTurn_list];have u:∀{E:V5->V7->Prop} (a:V5) (s:V7),False->E a s:=λ_ _ z=>z.elim
  refine V4 (wpAny_standAt (V4 (Xj (y n s hI) (λr f l=>?_) u)));cases r with
  | none=>exact V8 l
  | some v =>
    refine V4 (Xj l (λ_ e p=>?_) u);refine V4 (Xj p (λ_ j F=>V4 (Xj F (λok d k=>?_) u)) u);cases ok with
    | false=>exact V8 ⟨rfl,k⟩
    | true =>
      exact V4 (V4 (Xj k (λx i C=>V4 (Xj C (λ_ g B=>V8 (V8 ⟨rfl,B⟩)) u)) u))
def Qf(X:Cx)(d:List WG)(c:R->V3 Bool):Prop:=
 ∀(a:List (V_×Obj)) (s:V7) (b:L2.St) (H:Hp) (Q:Bool->Hp->Prop),L2.Inv X a b H s->Rx X.K c b H Q ->
  wpAny (model X.prog X.w) X.A (forIn d true λc r=>if r=true then do let ok <- isTrue c X.env (eval c X.env);pure (ForInStep.yield ok) else pure (ForInStep.yield r)) (TP X a b Q) X.xe s
def pQ:Qf X [] rF:=λc s d H Q I a=>by
 obtain⟨ρ,b,f,e,q⟩:=a;cases e;exact wpAny_tests_nil ⟨H,I,q H (g6.refl H)⟩
def pd(h:ST X e c):Qf X [e] c:=λa s b H Q I q=>wpAny_tests_one (h a s b H Q I q)
section
variable{X:Cx}{pins:List (V_×Obj)}{σ:L2.St}{H:Hp}{s:V7}{T:List Str}{scope:Scope}
def xb(k:Nat)(b:D->R->V3 R):Prop:=∀(d:D) (c ρ ρ1:R),c.length=k->b d (c++ρ)=some ρ1->∃ a,a.length=k/\ρ1=a++ρ
def B8{k i:Nat}(h:i<k):xb k (setAt i):=λd a ρ ρ1 b e=>by
 unfold setAt at e;split at e
 ·cases e
  exact⟨a.set i (some d),by simp[b],List.set_append_left _ _ (by omega)⟩
 ·cases e
theorem As{k:Nat}:∀{h:List (D->R->V3 R)},(∀f∈h,xb k f)->∀(ds:LD) (a ρ ρ1:R),a.length=k->Fk h ds (a++ρ)=some ρ1->∃ b,b.length=k/\ρ1=b++ρ
 | [],_,[],a,ρ,ρ1,hl,e=>by cases e;exact⟨a,hl,rfl⟩
 | [],_,_::_,_,_,_,_,e=>by cases e
 | _::_,_,[],_,_,_,_,e=>by cases e
 | f::h,hf,d::ds,a,ρ,ρ1,hl,e=>by
  obtain⟨ρ2,l,e⟩:=d7 e;obtain⟨c,j,rfl⟩:=hf f Ws d a ρ ρ2 hl l;exact As (λg i=>hf g (Wt _ i)) ds c ρ ρ1 j e
def IF{k:Nat}(g:∀f∈a,xb k f):xb k (zL a):=λd b ρ ρ1 c e=>by
 cases d with
 | tup ds=>exact As g ds b ρ ρ1 c e
 | _=>cases e
def sh.forget{K:Wb}{H:Hp}{σ:L2.St}(e:sh K H (a++ρ) σ):sh K H (List.replicate a.length none++ρ) σ:=by
 refine⟨by have:=e.1;simpa using this,λi d h=>?_⟩;by_cases b:i<a.length
 ·rw[WV (by simpa using b),List.getElem?_replicate] at h
  split at h<;>cases h
 ·rw[WI (by simpa using b),List.length_replicate] at h
  exact e.2 i d (by rw[WI (by omega)];exact h)
def Pk(I:L2.Inv X pins σ H s)(f:vP X pins H a)(new:rO X.prog X.w (upd H a o) s.heap a o):L2.Inv X pins σ (upd H a o) s:=by
 obtain⟨f0,A,B,y,v,t⟩:=f;have g:∀{b:V_} {u:HO},H b=some u->b≠a:=λe z=>by rw[z,f0] at e;cases e
 refine⟨I.ok,I.os,I.bare,⟨I.base.keep,I.base.slot,λb ob e n i=>?_,I.base.there,λb xs e=>?_,λb ob u r e=>?_,λb ps d e=>?_⟩,I.loc,I.cell,?_,λx c e=>?_,λp j=>?_,λb u e=>?_,I.len⟩
 ·have h:b≠a:=λz=>by
   rcases y with q | q
   ·exact i (z ▸ q)
   ·exact Wz (Wv (Wp e) (z ▸ q)) (Xf _)
  rw[ac h];exact I.base.free b ob e n i
 ·have q:=I.base.tups b xs e
  rw[ac (g q)];exact q
 ·have q:=I.base.frzs b ob u r e
  rw[ac (g q)];exact q
 ·have q:=I.base.tbls b ps d e
  rw[ac (g q)];exact q
 ·rw[ac (Ne.symm A)]
  exact I.free
 ·rw[ac (v x c e)]
  exact I.freeC x c e
 ·obtain⟨m,l,k⟩:=I.pin p j
  exact⟨m,by rw[ac (t p j)];exact l,k⟩
 ·by_cases h:b=a
  ·subst h
   rw[aa] at e;cases e;exact new
  ·rw[ac h] at e
   refine(I.hok b u e).stay (λ_ _ _ q=>q) (λc q=>?_) (λc xs q=>?_) λc _ _ q=>?_
   ·rw[ac (g q)];exact q
   ·rw[ac (g q)];exact q
   ·rw[ac (g q)];exact q
def Pq(l:b∈fp\/d.heap.objs.size<=b)(m:b≠C)(g:b∉HV X.stack)(a:∀x c,(ua scope.names X.env.cells []).lookup x=some c->c≠b)(k:i b=none)(j:∀p∈h,p.1≠b) :
  vP (yS X T scope C fp d e) h i b:=⟨k,m,g,l,a,λp f=>j p f⟩
inductive Pc (X Y:Cx) (H:Hp) (tn:Nat->WK->Prop) (fp:List V_) (a:V_) (ds out:LD) (F:LD->V3 LD) (ρ:R) (s:V7):Nat->Prop
 | mk (i:Nat) (σ:L2.St) (H':Hp) (vs:List V) (its:List V5) (k:Nat) (done rest:LD):i<=ds.length->L2.Inv Y [] σ H' s->tn i s.heap->(∀b∈fp,H' b=none)->H' a=none->g6 H H'->s.heap.get? a=some {cls:=.type "list",data:=.seq its.toArray k}->qP vs its->g7 X.K H' done vs->vs.length<=i->sh X.K H' ρ σ->F (ds.drop i)=some rest->out=done++rest->Pc X Y H tn fp a ds out F ρ s (ds.length - i)
def hZ{elt iter tg:WG}{ifs:List WG}{pos:Pos}{it:V_}{fp:List V_}{tn:Nat->WK->Prop}{J:It}{E:V5->V7->Prop}{ρ:R}{ds out:LD}{stf:D->R->V3 R}{cf:R->V3 Bool}{ef:R->OD}
  (I:L2.Inv X pins σ H s) (hc:X.calm=true) (Tn:Turn X.prog X.w X.K tg J fp it tn) (st:tn 0 s.heap) (hf:∀b∈fp,vP X pins H b)
  (ck:Dz scope X.env.scope T X.N) (hnd:(T++X.N).Nodup) (hst:xb T.length stf) (er:sh X.K H ρ σ) (y:v6 X.K J ds H) (hz:ds.length<=sizeLine) (hout:rh stf cf ef ds (List.replicate T.length none++ρ)=some out)
  (hg:∀C L j fp,GK X j->SG (yS X T scope C fp L j) tg stf) (hcnd:∀C L j fp,GK X j->Qf (yS X T scope C fp L j) ifs cf) (he:∀C L j fp,GK X j->SE (yS X T scope C fp L j) elt ef)
  {RR:V5->V_->Result->V7->Prop}
  (hRR:∀(a C:V_) (O:Hp) (s':V7) (vs:List V),g6 H O->O a=some (.lst vs)->g7 X.K O out vs->L2.Inv X pins σ O s'->vP X pins O C->(∃m,s'.heap.Ns C m)->RR (.ref a) C (.ok .next) s') :
  wpAny (model X.prog X.w) X.A (newList []) (λacc L=>wpAny (model X.prog X.w) X.A (newFunctionEnv scope X.env.globals (ua scope.names X.env.cells []) [] X.env.qual none .none (some X.env)) (λcenv s₄ =>
   codeAny (model X.prog X.w) X.A (.compStart (.ListComp elt [⟨tg,iter,ifs,0⟩] scope pos) 0 (.ref it) acc {cenv with scope:=relabel scope X.env}) (RR acc cenv.locals) s₄) E L) E s:=by
 refine WO (wpAny_newFunctionEnv ck.nocell (by intro y hy;simp at hy) (λW G g=>?_) ck.kind);dsimp only at G g ⊢;generalize hH2:s.heap.push {cls:=.type "list",dict:=none,data:=.seq ([]:List V5).toArray}=H2 at G g ⊢;generalize ha:s.heap.objs.size=a at *
 generalize hCe:H2.objs.size=C at G g ⊢;have hC:C=a+1:=by rw[<- hCe,<- hH2,Heap.size_push,ha]
 have haC':a<C:=by rw[hC];exact Xp a
 have haC:a≠C:=WA haC';have S:s.heap.objs.size<=a:=Nat.le_of_eq ha;have hCle:s.heap.objs.size<=C:=WD S (Nat.le_of_lt haC');have hlta:∀{b:V_} {o:Obj},s.heap.get? b=some o->b<a:=λe=>Wv (Wp e) S
 have old:∀b o,s.heap.get? b=some o->W.get? b=some o:=λb o e=>g.extBut b o (WA (Nat.lt_trans (hlta e) haC')) (V6 _ (hH2 ▸ V6 _ e))
 have hacc:W.get? a=some {cls:=.type "list",data:=.seq ([]:List V5).toArray}:=g.extBut _ _ haC (V6 _ (hH2 ▸ (ha ▸ Wf _ rfl)));have hfo:∀b∈fp,∃o,s.heap.get? b=some o:=λb f=>let ⟨o,e,_⟩:=Tn.obj 0 _ st b f;⟨o,e⟩
 have hlt:∀b∈fp,b<a:=λb f=>let ⟨o,e⟩:=hfo b f;hlta e
 have hns:W.Ns C (λ_=>none):=G;have I0:L2.Inv (yS X T scope C fp s H) [] (List.replicate T.length none++σ) H {s with heap:=W,toks:=s.toks+([]:List (Str×V5)).length}:=Li I ck hnd hf hfo hCle old hns;have hcl:∀y c,(ua scope.names X.env.cells []).lookup y=some c->X.env.cells.lookup y=some c:=Ad scope.names [] λy c h=>by cases h
 have hfs:∀b,a<=b->b∉HV X.stack:=λb f hz=>by
  rcases Wo.mp (I.stkSub b hz) with z | z
  ·exact Wz (Wv I.lt (WD S (z ▸ f))) (Xf _)
  ·exact I.nofs (WD S f) z
 have hcells:∀b,a<=b->∀x c,(ua scope.names X.env.cells []).lookup x=some c->c≠b:=λb f x c h z=>by
  obtain⟨v,q⟩:=I.cell x c (hcl x c h);exact Wz (Wv q.lt (WD S (z ▸ f))) (Xf _)
 have Z:∀{O:Hp} {pl:List (V_×Obj)},(∀b∈fp,O b=none)->(∀p∈pl,p.1∉fp)->∀b∈fp,vP (yS X T scope C fp s H) pl O b:=λ{O pl} hn hp b f =>
  Pq (.inl f) (WA (Nat.lt_trans (hlt b f) haC')) (I0.ok.exfs b f) (λx c h=>(I0.ok.exf b f).2 x c h) (hn b f) λp hp' z=>hp p hp' (z ▸ f)
 have hAok:∀{O:Hp},O a=none->∀b ∈ [a],vP (yS X T scope C fp s H) [] O b:=λ{O} hn b f=>by
  cases Wh.mp f;exact Pq (.inr S) haC (hfs a (Wl _)) (hcells a (Wl _)) hn λp hp=>Wz hp (by simp)
 have hAfp:a∉fp:=λz=>Xf _ (hlt a z)
 have loop:codeAny (model X.prog X.w) X.A (.compLoop (.ListComp elt [⟨tg,iter,ifs,0⟩] scope pos) 0 (.ref it) (.ref a) (compEnvC scope (ua scope.names X.env.cells []) C X.env))
   (RR (.ref a) C) {s with heap:=W,toks:=s.toks+([]:List (Str×V5)).length}:=by
  refine DC (λn s'=>Pc X (yS X T scope C fp s H) H tn fp a ds out (λl=>rh stf cf ef l (List.replicate T.length none++ρ)) (List.replicate T.length none++ρ) s' n) ?_ ds.length
   (.mk 0 _ H [] [] 0 [] out (W4 _) I0 (Tn.keep _ _ _ st λb f o e=>old b o e) (λb f=>(hf b f).1) (I.hok.fresh S) (g6.refl H) hacc .nil rfl (W4 _) (er.front T.length (List.replicate T.length none) (by simp)) hout rfl)
  rintro n s' ⟨i,σ',O,vs,Q,k,done,rest,hi,I',st',hn',hna,sm,ho,hv,hrd,hvl,er',d,hsum⟩
  have Ip:=I'.pinned (fp:=[a]) (hAok hna) λb f=>by
   cases Wh.mp f;exact⟨_,ho,λv z=>by cases z⟩
  generalize hP:([]:List (V_×Obj))++xC [a] s'.heap=P at Ip;have hPm:(a,({cls:=.type "list",data:=.seq Q.toArray k}:Obj))∈P:=by rw[<- hP];exact WN _ (bC (by simp) ho)
  have hPa:∀p∈P,p.1∉fp:=λp hp z=>by
   rw[<- hP] at hp;obtain⟨q,_⟩:=Cd hp;rw[Wh.mp q] at z;exact hAfp z
  by_cases hlt':i<ds.length
  ·have hd:ds[i]?=some ds[i]:=by simp[hlt']
   obtain⟨hgo,hy⟩:=y.1 i ds[i] O (Kp.of sm) hd;rw[W6 hlt'] at d;obtain⟨ρ1,e1,d⟩:=d7 d;obtain⟨b,e2,d⟩:=d7 d;obtain⟨o,e3,d⟩:=d7 d;obtain⟨rest',e4,e5⟩:=q8 d;obtain⟨τ,hτ,hρ1⟩:=hst ds[i] (List.replicate T.length none) ρ ρ1 (by simp) e1;refine rg (Tn.item (yS X T scope C fp s H) rfl rfl rfl hc i P s' σ' O (λ_ _=>False) Ip (Z hn' hPa) st' hgo) λr s1 M=>?_
   obtain⟨u,hr,h4⟩:=M;subst hr;refine rg h4 λ_ s2 M=>?_
   obtain⟨x,H2',I2,r2,y2,st2,fr2⟩:=M;obtain⟨s12,rx⟩:=hy x H2' y2;have I3:=I2.pinned (fp:=fp) (Z fr2 hPa) (Tn.obj _ _ st2);refine rg (hg C s H fp I.base.tbls _ s2 σ' H2' x u (λB H3=>g6 H2' H3/\sh X.K H3 ρ1 B) I3 r2 ⟨_,_,ds[i],ρ1,(er'.mono s12).t,rx,e1,λB H3 s3 er3=>⟨s3,er3.1⟩⟩) λ_ s3 M=>?_
   obtain⟨B,H3,I4,s23,er3⟩:=M;refine rg (hcnd C s H fp I.base.tbls _ s3 B H3 (λb' H4=>b'=b/\g6 H3 H4) I4 ⟨ρ1,b,er3,e2,λH4 s4=>⟨rfl,s4⟩⟩) λb' s4 M=>?_
   obtain⟨H4,I5,hb',Y⟩:=M;subst hb'
   have fin:∀{U:Hp} {s5:V7},L2.Inv (yS X T scope C fp s H) (P++xC fp s2.heap) B U s5->(∀b∈fp,U b=none)/\U a=none/\s5.heap.get? a=some {cls:=.type "list",data:=.seq Q.toArray k}/\(∀b∈fp,∀o,s2.heap.get? b=some o->s5.heap.get? b=some o):=λ{U s5} I6=>by
    refine⟨λb f=>?_,(I6.pin _ (WN _ (Xm _ hPm))).2.1,(I6.pin _ (WN _ (Xm _ hPm))).1,λb f o e=>(I6.pin (b,o) (WN _ (WN _ (bC f e)))).1⟩;obtain⟨o,e,_⟩:=Tn.obj _ _ st2 b f;exact(I6.pin (b,o) (WN _ (WN _ (bC f e)))).2.1
   have unpin:∀{U:Hp} {s5:V7},L2.Inv (yS X T scope C fp s H) (P++xC fp s2.heap) B U s5->L2.Inv (yS X T scope C fp s H) [] B U s5:=λI6=>I6.pins_of λp hp=>Wz hp (by simp)
   have erb:∀{U:Hp},g6 H3 U->sh X.K U (List.replicate T.length none++ρ) B:=λs5=>by
    have z:=er3.mono s5;rw[hρ1] at z;have z2:=z.forget;rw[hτ] at z2;exact z2
   cases b' with
   | false =>
    cases e3;rw[Wu We];obtain⟨q1,q2,q3,q4⟩:=fin I5;have sm4:g6 H H4:=sm.trans (s12.trans (s23.trans Y));have smr:g6 O H4:=s12.trans (s23.trans Y);exact⟨_,by omega,.mk (i+1) B H4 vs Q k done rest' hlt' (unpin I5) (Tn.keep _ _ _ st2 q4) q1 q2 sm4 q3 hv (hrd.mono smr) (Nat.le_succ_of_le hvl) (erb Y) e4 (by rw[hsum,<- e5])⟩
   | true =>
    rw[Wc rfl] at e3 ⊢;obtain⟨yv,e6,e7⟩:=q8 e3;subst e7;refine rg (he C s H fp I.base.tbls _ s4 B H4 (λv U=>g6 H4 U/\Rep X.K U yv v) I5 ⟨ρ1,yv,er3.mono Y,e6,λv U s5 r5=>⟨s5,r5⟩⟩) λxv s5 M=>?_
    obtain⟨v,U,I6,rv,s45,ry⟩:=M;obtain⟨q1,q2,q3,q4⟩:=fin I6;have hl:=hv.length;refine call_meets F.slot_list_append ⟨_,q3,rfl⟩ F.entry_list_append (F.args_list_append_2 _ _) (PySem.list_append a Q.toArray k xv (by rw[Wy];omega)) ⟨q3,?_⟩;have q:=PySem.IsL.update q3 (λxs=>xs.push xv);have sm5:g6 H U:=sm.trans (s12.trans (s23.trans (Y.trans s45)));have smr:g6 O U:=s12.trans (s23.trans (Y.trans s45))
    have I7:L2.Inv (yS X T scope C fp s H) [] B U {s5 with heap:=s5.heap.update a (Obj.mapSeq λxs=>xs.push xv),toks:=s5.toks}:=
     (unpin I6).turned (it:=a) (t':=s5.toks) (λb ob f hu=>(WF s5.heap _ (Ne.symm f)).trans hu) q2 haC (.inr S) (hcells a (Wl _)) λp hp=>Wz (show p∈([]:List (V_×Obj)) from hp) (by simp)
    refine⟨_,by omega,.mk (i+1) B U (vs++[v]) (Q++[xv]) (if (Q.toArray.push xv).size==Q.toArray.size then k else k+1) (done++[yv]) rest' hlt' I7 (Tn.keep _ _ _ st2 λb f ob e=>?_) q1 q2 sm5 ?_ (hv.append (.cons rv .nil)) ((hrd.mono smr).append (g7.one ry)) (by simp;omega) (erb (Y.trans s45)) e4 (by rw[hsum,<- e5];simp)⟩
    ·have hne:b≠a:=λz=>hAfp (z ▸ f)
     exact(WF s5.heap _ (Ne.symm hne)).trans (q4 b f ob e)
    ·have z:Q.toArray.push xv=(Q++[xv]).toArray:=by simp
     rw[<- z];exact q
  ·have ei:i=ds.length:=by omega
   subst ei;rw[List.drop_length] at d;cases d;rw[WT] at hsum;subst hsum;refine rg (Tn.done (yS X T scope C fp s H) rfl rfl rfl hc ds.length P s' σ' O (λ_ _=>False) Ip (Z hn' hPa) st' (y.2 _ O (Kp.of sm) (Wl _))) λr s1 M=>?_
   obtain⟨hr,I1⟩:=M;subst hr;have ho1:=(I1.pin _ (WN _ hPm)).1;have IX:L2.Inv X pins σ O s1:=I.call' (ch:=fp) I1.os I1.base I1.hok I1.bare λb f=>⟨(hf b f).2.2.2.1,(hf b f).2.1,(hf b f).2.2.2.2.1,(hf b f).2.2.2.2.2⟩
   have fA:vP X pins O a:=I.fpOk S hna;have s2:=ar hna (.lst vs);refine hRR a C (upd O a (.lst vs)) s1 vs (sm.trans s2) aa (hrd.mono s2) (Pk IX fA ⟨WD hvl hz,Q,k,hv,ho1⟩) (I.fpOk hCle ?_) (let ⟨m,q,_⟩:=I1.loc;⟨m,q⟩);rw[ac (Ne.symm haC)];exact I1.free
 exact codeAny_compStart_list loop (Tn.self _ _ _ _ _ (Tn.keep _ _ _ st λb f o e=>old b o e) loop)
variable{elt iter tg:WG}{ifs:List WG}{pos p2:Pos}{itf:R->V3 LD}{stf:D->R->V3 R}{cf:R->V3 Bool}{ef:R->OD}
def f_(I:L2.Inv X pins σ H s)(c:Dz scope X.env.scope T X.N):closureFor scope X.env=pure (ua scope.names X.env.cells []):=Gu λp a b=>I.ok.has p.1 (c.free p a b)
def qB(Y:X.calm=true)(P:SI X tg iter itf)(S:∀C f c fp,GK X c->SG (yS X T scope C fp f c) tg stf)(i:∀C f c fp,GK X c->Qf (yS X T scope C fp f c) ifs cf)(W:∀C f c fp,GK X c->SE (yS X T scope C fp f c) elt ef)
  (k:xb T.length stf) (p:(T++X.N).Nodup) (ck:wF scope X.env.scope T X.N=true:=by rfl) (L:∀x,foldedSetIterable iter X.env x=pure x:=by intro _;rfl) :
  SE X (.ListComp elt [⟨tg,iter,ifs,0⟩] scope pos) (uh T.length itf stf cf ef):=by
 intro pins s σ H Q I G;obtain⟨ρ,d,t,e,q⟩:=G;obtain⟨ds,e1,e⟩:=d7 e;have g:=CG ck;split at e
 ·rename_i hz
  obtain⟨out,e2,e3⟩:=q8 e;subst e3;rw[eval_ListComp];refine wpAny_comprehension_free (use:=none) rfl L (f_ I g) g.kind g.names ?_;refine rg (P pins s σ H (λJ j=>g6 H j/\v6 X.K J ds j) I ⟨ρ,ds,t,e1,λJ j s1 y=>⟨s1,y⟩⟩) λv s1 h1=>rg h1 λF s2 h2=>?_
  obtain⟨it,fp,tn,J,j,ei,I2,Tn,st,U,h,y⟩:=h2;subst ei;refine hZ (RR:=λr C=>compPost (model X.prog X.w) X.A X.xe none (EP X pins σ Q) r C) I2 Y Tn st U g p k (t.mono h) y hz e2 S i W ?_;intro a C u E z B ha M I3 fC n;obtain⟨m,O⟩:=n;refine⟨m,O,λh' l=>⟨.ref a,u,?_,rfl,q _ u (h.trans B) ⟨a,z,rfl,ha,M⟩⟩⟩;obtain⟨f0,f1,f2,f3,f4,f5⟩:=fC;exact I3.turned (it:=C) (t':=E.toks) (λb o Z eb=>(l.2 b Z).trans eb) f0 f1 f3 f4 f5
 ·cases e
def mN{i:Nat}(hc:X.calm=true)(hN:X.N.Nodup)(hi:SI X tg iter itf)(hg:∀C f c fp,GK X c->SG (yS X T scope C fp f c) tg stf)(p:∀C f c fp,GK X c->Qf (yS X T scope C fp f c) ifs cf)(he:∀C f c fp,GK X c->SE (yS X T scope C fp f c) elt ef)
  (G:xb T.length stf) (O:(T++X.N).Nodup) (P:X.N[i]?=some x:=by rfl) (hx:Loc X.env.scope x:=by first | exact Or.inl rfl | exact Or.inr rfl) (S:X.fn x=true\/X.env.scope.names.lookup x=some .local:=by first | exact .inl rfl | exact .inr rfl)
  (ck:wF scope X.env.scope T X.N=true:=by rfl) (F:swapsWith (.ListComp elt [⟨tg,iter,ifs,0⟩] scope pos) (some (.Name x k)) h.line X.env=pure true:=by rfl) (hs:∀x,foldedSetIterable iter X.env x=pure x:=by intro _;rfl) :
  S1 X (.Assign [.Name x k] (.ListComp elt [⟨tg,iter,ifs,0⟩] scope pos) h) (i7 (uh T.length itf stf cf ef) (setAt i)):=by
 intro pins s σ H E I hw;obtain⟨ρ,τ,o,Y,e,q⟩:=hw;obtain⟨d,e0,e⟩:=d7 e;obtain⟨ρ',r,e⟩:=q8 e;subst e;unfold setAt at r;split at r
 case isFalse=>cases r
 case isTrue hlt =>
 cases r;obtain⟨ds,e1,e⟩:=d7 e0;have g:=CG ck;split at e
 ·rename_i hz
  obtain⟨out,e2,e3⟩:=q8 e;subst e3;rw[exec_Assign_Name_used _ _ _ _ F];refine V4 (wpAny_standAt (V4 ?_));show wpAny _ X.A (do let _ <- comprehension (.ListComp elt [⟨tg,iter,ifs,0⟩] scope pos) scope X.env _ (newList []) false (eval iter X.env) (some (assign (.Name x k) X.env))) _ _ s;refine V4 (Xj (wpAny_comprehension_free (use:=some (assign (.Name x k) X.env)) (Q:=λ_ l=>SP X pins E .next l) rfl hs (f_ I g) g.kind g.names ?_) (λ_ l hq=>V8 (V8 hq)) λ_ _ z=>z);refine rg (hi pins s σ H (λJ t=>g6 H t/\v6 X.K J ds t) I ⟨ρ,ds,Y.1,e1,λJ t s1 y=>⟨s1,y⟩⟩) λv s1 h1=>rg h1 λitv s2 h2=>?_
  obtain⟨it,fp,tn,J,t,ei,I2,Tn,st,hf,j,y⟩:=h2;subst ei;refine hZ (RR:=λZ C=>compPost (model X.prog X.w) X.A X.xe (some (assign (.Name x k) X.env)) (λ_ l=>SP X pins E .next l) Z C) I2 hc Tn st hf g O G (Y.1.mono j) y hz e2 hg p he ?_;intro a C H3 l vs sm ha hr I3 fC M;obtain⟨m,hm⟩:=M;obtain⟨f0,f1,f2,f3,f4,f5⟩:=fC;show wpAny _ X.A (assign (.Name x k) X.env (.ref a)) _ _ _;refine wpAny_assign_Name (CQ (v:=.ref a) I3 hN P hx rfl (λu I4 B=>?_) S);obtain⟨b,L,U⟩:=B
  have W:C≠b:=by
   rcases U with z | z
   ·exact z ▸ f1
   ·exact Ne.symm (f4 x b z)
  refine⟨m,hm.sameBut L W,λh' n=>⟨σ.set i (some (.ref a)),H3,I4.turned (it:=C) (t':=u.toks) (λb o U eb=>(n.2 b U).trans eb) f0 f1 f3 f4 f5,q H3 (j.trans sm) _ ?_⟩⟩;exact(Y.mono (j.trans sm)).set hlt ⟨a,vs,rfl,ha,hr⟩
 ·cases e
end
end HW
namespace HW
open PySem
mutual
def toPy:D->PyData
 | .non=>.none
 | .bl b=>.bool b
 | .int i=>.int i
 | .str x=>.str x
 | .tup xs=>.tuple (tm xs)
 | .lst xs=>.list (tm xs)
 | .fro xs=>.list (tm xs)
 | .obj ..=>.dict []
 | .dct ..=>.dict []
 | .dcp ..=>.dict []
 | .cl ..=>.dict []
def tm:LD->List PyData
 | []=>[]
 | d::ds=>toPy d::tm ds
end
end HW
set_option maxHeartbeats 1000000
namespace HW
open PySem PySem.Spec PyProof.Rows L2
section
variable{X:Cx}
def ints2{K:Wb}{i j:Int}(r:g7 K H [.int i,.int j] xs):xs=[.int i,.int j]:=by
 obtain⟨v,d,rfl,r1,w,a,rfl,c,b⟩:=r;cases (show v=_ from r1);cases (show w=_ from c);cases (show a=[] from b);rfl
def QX(e:DY l=some r):∃i j,l=[.int i,.int j]:=by
 obtain⟨x,y,rfl,e⟩:=Ac e;obtain⟨a,d,e⟩:=d7 e;obtain⟨b,c,_⟩:=q8 e;cases BX d;cases BX c;exact⟨_,_,rfl⟩
def oY(b:X.calm=true):Pb X (.builtin "max") DY:=(kh b).imp λxs H Q a=>by
 obtain⟨ds,d,r,e,q⟩:=a;obtain⟨i,j,rfl⟩:=QX e;cases e;exact⟨i,j,ints2 r,q _ H (g6.refl H) rfl⟩
def Q_(e:IN l=some r):(∃i,l=[.int i]/\r=.int i)\/∃b:Bool,l=[.bl b]/\r=.int (if b then 1 else 0):=by
 obtain⟨x,rfl,e⟩:=tX e;obtain⟨a,e,rfl⟩:=q8 e;cases x<;>cases e
 ·exact .inr ⟨_,rfl,rfl⟩
 ·exact .inl ⟨_,rfl,rfl⟩
def pc:Pb X (.type "int") IN:=IQ.imp λxs H Q f=>by
 obtain⟨ds,d,r,e,q⟩:=f;rcases Q_ e with ⟨i,rfl,rfl⟩ | ⟨b,rfl,rfl⟩
 ·obtain⟨v,c,rfl,r1,a⟩:=r
  cases (show v=_ from r1);cases (show c=[] from a);exact .inl ⟨i,rfl,q _ H (g6.refl H) rfl⟩
 ·obtain⟨v,c,rfl,r1,a⟩:=r
  cases (show v=_ from r1);cases (show c=[] from a);exact .inr ⟨b,rfl,q _ H (g6.refl H) rfl⟩
mutual
theorem vz(I:L2.Inv X j l H s):∀{d:D} {v:V} {u:V5},uF d=true->Rep X.K H d v->RelV v u->∃as,Reads s.heap u (toPy d) as
 | .non,v,u,hn,h,r=>by
  cases (show v=_ from h);cases (show u=_ from r);exact⟨_,.none⟩
 | .bl b,v,u,hn,h,r=>by
  cases (show v=_ from h);cases (show u=_ from r);exact⟨_,.bool b⟩
 | .int i,v,u,hn,h,r=>by
  cases (show v=_ from h);obtain⟨t,rfl⟩:=r;exact⟨_,.int i t⟩
 | .str x,v,u,hn,h,r=>by
  cases (show v=_ from h);obtain⟨t,rfl⟩:=r;exact⟨_,.str x t⟩
 | .tup ds,v,u,hn,h,r=>by
  obtain⟨a,xs,rfl,q,t⟩:=h;cases (show u=_ from r);obtain⟨k,f,⟨o,e,c,n,dd⟩,_⟩:=I.tuple q;obtain⟨as,g⟩:=vo I hn t f;exact⟨_,.tuple e c dd (by simpa using g)⟩
 | .lst ds,v,u,hn,h,r=>by
  obtain⟨a,xs,rfl,q,t⟩:=h;cases (show u=_ from r);obtain⟨k,f,⟨o,n,e,c,_,dd⟩,_⟩:=I.list (uI.of q);obtain⟨as,g⟩:=vo I hn t f;exact⟨_,.list e c dd (by simpa using g)⟩
 | .fro ds,v,u,hn,h,r=>by
  obtain⟨a,xs,rfl,q,t⟩:=h;cases (show u=_ from r);obtain⟨k,f,⟨o,n,e,c,_,dd⟩,_⟩:=I.list q;obtain⟨as,g⟩:=vo I hn t f;exact⟨_,.list e c dd (by simpa using g)⟩
 | .obj ..,v,u,hn,h,r=>by cases hn
 | .dct ..,v,u,hn,h,r=>by cases hn
 | .dcp ..,v,u,hn,h,r=>by cases hn
 | .cl ..,v,u,hn,h,r=>by cases hn
theorem vo(I:L2.Inv X c e H s):∀{ds:LD} {b:List V} {us:List V5},rW ds=true->g7 X.K H ds b->qP b us->∃as,ReadsAll s.heap us (tm ds) as
 | [],b,us,hn,h,r=>by
  cases (show b=[] from h);cases r;exact⟨_,.nil⟩
 | d::ds,b,us,hn,h,r=>by
  have a:(uF d&&rW ds)=true:=hn;rw[Wj] at a;obtain⟨v,j,rfl,h1,i⟩:=h;cases r with
  | cons r1 r2 =>
   obtain⟨as,g⟩:=vz I a.1 h1 r1;obtain⟨bs,f⟩:=vo I a.2 i r2;exact⟨_,.cons g f⟩
end
end
noncomputable def uw(a:V_)(xs:List V):HO:=.ext λh=>xs.length<=sizeLine/\∃(b:List V5) (n:Nat),qP xs b/\h.get? a=some {cls:=.type "list",data:=.seq b.toArray n}
section
variable{X:Cx}{pins:List (V_×Obj)}{σ:L2.St}{H:Hp}{s:V7}{a:V_}{xs:List V}
def gq(I:L2.Inv X pins σ H s)(h:H a=some (uw a xs)):xs.length<=sizeLine/\∃(b:List V5) (n:Nat),qP xs b/\s.heap.get? a=some {cls:=.type "list",data:=.seq b.toArray n}:=(I.hok a _ h).1
def AD(I:L2.Inv X pins σ H s)(h:H a=some (.lst xs)):L2.Inv X pins σ (upd H a (uw a xs)) s:=by
 obtain⟨z,b,n,r,e⟩:=I.hok a _ h;have:=I.write (t':=s.toks) (h':=s.heap) (o:=uw a xs) (x:=a) (e:=a) (by rw[h];trivial) (.inl rfl) (λ_ _ _ q=>q) ⟨_,e⟩ ⟨⟨z,b,n,r,e⟩,⟨_,e⟩,λh1 c ⟨z,b,n,r,e⟩ k=>⟨z,b,n,r,k _ e⟩⟩;exact this
def D5(I:L2.Inv X pins σ H s)(h:H a=some (uw a xs)):L2.Inv X pins σ (upd H a (.lst xs)) s:=by
 obtain⟨z,b,n,r,e⟩:=gq I h;have:=I.write (t':=s.toks) (h':=s.heap) (o:=.lst xs) (x:=a) (e:=a) (by rw[h];trivial) (.inl rfl) (λ_ _ _ q=>q) ⟨_,e⟩ ⟨z,b,n,r,e⟩;exact this
def sj(a:V_)(H c:Hp):Prop:=∀b u,b≠a->H b=some u->c b=some u
def sj.of{H c:Hp}(h:g6 H c):sj a H c:=λb u _ e=>h b u e
def sj.trans{H d c:Hp}(h:sj a H d)(h':sj a d c):sj a H c:=λb u n e=>h' b u n (h b u n e)
theorem sj.upd:sj a H (upd H a o):=λb u n e=>by rw[ac n];exact e
def sj.kp{H d:Hp}(h:sj a H d)(f:H a=some (uw a xs)):Kp H d:=λb u e n=>by
 by_cases c:b=a
 ·subst c
  rw[f] at e;cases e;exact Wz rfl (n _)
 ·exact h b u c e
end
section
variable(K:Wb)
def UC(u:R->LD->V3 (Out×LD)):TS:=λE f H=>∃ ρ e a ds xs o c,r_ K H ρ (some (.ref a)::e) f/\H a=some (uw a xs)/\g7 K H ds xs/\u ρ ds=some (o,c) /\
 ∀d b,sj a H d->d a=some (uw a b)->g7 K d c b->fin K E (some (.ref a)::e) o d
def VE(u:R->LD->V3 Out):TS:=λE d H=>∃ ρ b a ds xs o,r_ K H ρ (some (.ref a)::b) d/\H a=some (uw a xs)/\g7 K H ds xs/\u ρ ds=some o/\∀c,sj a H c->fin K E b o c
end
def OS(X:Cx)(st:Xi)(u:R->LD->V3 (Out×LD)):Prop:=PS X st (UC X.K u)
def Ox(X:Cx)(a:List Xi)(u:R->LD->V3 (Out×LD)):Prop:=PSs X a (UC X.K u)
def OB(X:Cx)(a:List Xi)(u:R->LD->V3 Out):Prop:=PSs X a (VE X.K u)
section
variable{X:Cx}{st:Xi}{sts:List Xi}{u:R->V3 Out}{p q:R->LD->V3 (Out×LD)}{pos:Pos}
def HC{K:Wb}(h:UC K (xa u) E b H):Rf K u E b H:=by
 obtain⟨ρ,l,a,ds,xs,o,j,f,d,c,e,q⟩:=h;obtain⟨m,i,g⟩:=q8 e;cases g;exact⟨ρ,_,o,f,i,λk s=>q k xs (sj.of s) (s _ _ d) (c.mono s)⟩
def mU(h:S1 X st u):OS X st (xa u):=PS.imp h λE a H z=>HC z
def kJ(h:SS X sts u):Ox X sts (xa u):=PSs.imp h λE a H z=>HC z
def mP:Ox X [] zr:=Ab.imp λE c H b=>by
 obtain⟨ρ,i,a,ds,xs,o,h,g,f,d,e,q⟩:=b;cases e;exact q H xs (sj.of (g6.refl H)) f d c g
def lB(h1:OS X st p)(y:Ox X sts q):Ox X (st::sts) (BM p q):=(aS h1 y).imp λE C H k=>by
 obtain⟨ρ,s,a,ds,xs,o,n,z,x,w,e,h⟩:=k;obtain⟨⟨t,g⟩,A,e⟩:=d7 e;refine⟨ρ,s,a,ds,xs,t,g,z,x,w,A,λr b k1 f c=>?_⟩;cases t with
 | nx ρ2=>exact λv m=>⟨ρ2,s,a,g,b,o,n,m,f,c,e,λB i k2 l j=>h B i (k1.trans k2) l j⟩
 | rt d=>cases e;exact h r b k1 f c
 | bk ρ2=>cases e;exact h r b k1 f c
 | ct ρ2=>cases e;exact h r b k1 f c
def nA(h:OS X st p):Ox X [st] p:=bK h
def qx(r:ST X c s)(v:Ox X n p)(t:Ox X m q):OS X (.If c n m pos) (MM s p q):=(jU r v t).imp λE y H f=>by
 obtain⟨ρ,i,a,ds,xs,o,d,g,l,j,e,k⟩:=f;obtain⟨x,w,e⟩:=d7 e;refine⟨ρ,x,g.1,w,λz s1=>?_⟩;cases x with
 | true=>rw[Wc rfl] at e ⊢;exact⟨ρ,i,a,ds,xs,o,d,g.mono s1,s1 _ _ l,j.mono s1,e,λh b k2=>k h b ((sj.of s1).trans k2)⟩
 | false=>rw[Wu We] at e ⊢;exact⟨ρ,i,a,ds,xs,o,d,g.mono s1,s1 _ _ l,j.mono s1,e,λh b k2=>k h b ((sj.of s1).trans k2)⟩
def oP(hp:PassesOwn (model X.prog X.w) X.A X.env X.xe)(hc:X.calm=true)(Z:SI X tg iter it)(hg:SG X tg h)(hb:Ox X B p)
  (hs:∀x,foldedSetIterable iter X.env x=pure x:=by intro _;rfl):OS X (.For tg iter B [] pos) (A3 it h p):=(jk hp hc Z hg hb hs).imp λE σ H P=>by
 obtain⟨ρ,N,a,ls,xs,o,F,er,Y,rp,e,q⟩:=P;obtain⟨ds,e1,e⟩:=d7 e;refine⟨ρ,ds,er.1,e1,λJ M s1 y=>?_⟩
 refine⟨λi m v s=>m=ds.length - i/\i<=ds.length/\sj a M s/\∃ ρ' l b,r_ X.K s ρ' (some (.ref a)::N) v/\s a=some (uw a b)/\g7 X.K s l b/\wX h p (ds.drop i) ρ' l=some (o,F),
  ⟨ds.length,by simp,W4 _,sj.of (g6.refl _),ρ,ls,xs,er.mono s1,s1 _ _ Y,rp.mono s1,by simpa using e⟩,?_⟩
 rintro i m v s ⟨rfl,Z,s2,ρ',l,b,I,G,C,f⟩;have kp:Kp M s:=s2.kp (s1 _ _ Y);by_cases r:i<ds.length
 ·refine .inr ?_
  have hd:ds[i]?=some ds[i]:=by simp[r]
  obtain⟨Q,hy⟩:=y.1 i ds[i] s kp hd;rw[W6 r] at f;obtain⟨ρ1,e2,f⟩:=d7 f;obtain⟨⟨U,O⟩,e3,f⟩:=d7 f
  refine⟨Q,λz L=>i+1<=ds.length/\sj a M L/\∃ ρ' l b,r_ X.K L ρ' (some (.ref a)::N) z/\L a=some (uw a b)/\g7 X.K L l b/\wX h p (ds.drop (i+1)) ρ' l=some (o,F),
   λz L W=>⟨ds.length - (i+1),by omega,rfl,W.1,W.2⟩,λx H3 yx=>?_⟩
  obtain⟨s3,rx⟩:=hy x H3 yx;refine⟨ρ',_,ds[i],ρ1,I.mono s3,rx,e2,λσ4 H4 s4 S=>⟨ρ1,N,a,l,b,U,O,S,s4 _ _ (s3 _ _ G),(C.mono s3).mono s4,e3,λT g k5 n k=>?_⟩⟩;have j:sj a M T:=s2.trans ((sj.of s3).trans ((sj.of s4).trans k5));cases U with
  | nx ρ2=>exact λt c=>⟨r,j,ρ2,O,g,c,n,k,f⟩
  | ct ρ2=>exact λt c=>⟨r,j,ρ2,O,g,c,n,k,f⟩
  | bk ρ2=>cases f;exact λt c=>q T g ((sj.of s1).trans j) n k t c
  | rt d=>cases f;exact q T g ((sj.of s1).trans j) n k
 ·have e4:i=ds.length:=by omega
  subst e4;rw[List.drop_length] at f;cases f;exact .inl ⟨y.2 _ s kp (Wl _),q s b ((sj.of s1).trans s2) G C v I⟩
def ft{K:Wb}(c:r_ K H ρ (some v::b) a):a[ρ.length]?=some (some v):=by
 have:=c.2;have h0:(a.drop ρ.length)[0]?=some (some v):=by rw[this];rfl
 rw[List.getElem?_drop] at h0;simpa using h0
def kZ{x name:Str}{e:WG}{J ap W:Pos}{f:R->OD}{id:String}{r:V->List V->Hp->VK->Prop}{g:LD->D->V3 LD}{u:R->LD->V3 (Out×LD)}(i:Nat)(slot:Slot "list" name id)(hty:typeOf (.builtin id)=pure (.type "method_descriptor"))(hm:UU X id r)
  (hu:∀ ρ ds o h,u ρ ds=some (o,h)->ρ.length=i/\o=.nx ρ/\∃d,f ρ=some d/\g ds d=some h)
  (hr:∀(H:Hp) (a:V_) (xs:List V) (v:V) (ds h:LD) (d:D) (Q:VK),H a=some (uw a xs)->g7 X.K H ds xs->Rep X.K H d v->g ds d=some h->(∀c,g7 X.K H h c->Q .non (upd (upd H a (.lst xs)) a (.lst c)))->r (.ref a) [v] (upd H a (.lst xs)) Q)
  (he:SE X e f) (hN:X.N[i]?=some x:=by rfl) (hv:Do X.env.scope x:=by first | exact Or.inl rfl | exact Or.inr (Or.inl rfl) | exact Or.inr (Or.inr rfl)) (hd:(x==("__debug__" : Str))=false:=by decide) (hcd:(x==("__classdict__" : Str))=false:=by decide)
  (G:attributeBase (.Name x J) name X.env (eval (.Name x J) X.env)=eval (.Name x J) X.env:=by rfl) (S:noStar e=true:=by rfl)
  (C:(ap.endLine==W.line)=true:=by rfl) (hs:swapsWith (.Call (.Attribute (.Name x J) name ap) [e] [] W) none pos.line X.env=pure false:=by rfl) :
  OS X (.Expr (.Call (.Attribute (.Name x J) name ap) [e] [] W) pos) u:=by
 intro j s L H E I k;obtain⟨ρ,τ,a,ds,xs,o,h,er,ho,rp,eu,qq⟩:=k;obtain⟨hi,rfl,d,e1,e2⟩:=hu ρ ds o h eu;have P:=ft er;rw[hi] at P;have m:=ad [] X.env S;refine wpAny_Expr_any (wpAny_Call_method_late G ?_ C rfl (rg ((pv i (pos:=J) hN hv hd hcd) j s L H (λv U=>v=.ref a/\U=H) I ⟨.ref a,P,rfl,rfl⟩) λv s1 ⟨y,U,I1,r1,ey,eH⟩=>?_)) I.quiet hs
 ·rw[m]
  rfl
 subst ey eH;cases (show v=_ from r1);obtain⟨z,its,n,rv,eo⟩:=gq I1 ho;refine⟨"list",id,PySem.F.plainAttrs_list,slot,hty,⟨_,eo,rfl⟩,λb eb=>?_,?_⟩
 ·cases eb
  exact⟨_,eo,rfl⟩
 have hA:=(aj he aD S).1 W j s1 L U (λY l=>g6 U l/\g7 X.K l [d] Y) I1 ⟨ρ,[d],er.1,by show(f ρ).bind _=_;rw[e1];rfl,λY l s2 r2=>⟨s2,r2⟩⟩;rw[m] at hA ⊢;refine Calls.callWith_builtin rfl (Calls.evalArgs_plain ?_);refine rg hA λus s2 k=>?_
 obtain⟨Y,l,I2,r2,t,rd⟩:=k;obtain⟨w,w',rfl,rw1,Z⟩:=rd;cases (show w'=[] from Z);have B:=t _ _ ho;have I3:=D5 I2 B;refine rg (hm j s2 L (upd l a (.lst xs)) (.ref a) [w] (.ref a) us (λv H3=>∃c,g7 X.K l h c/\H3=upd (upd l a (.lst xs)) a (.lst c)) I3 rfl r2 (hr l a xs w ds h d _ B (rp.mono t) rw1 e2 λc A=>⟨c,A,rfl⟩)) λv s3 k=>?_
 obtain⟨v',H3,I4,_,c,A,e3⟩:=k;subst e3;have I5:=AD I4 aa;generalize T:upd (upd (upd l a (.lst xs)) a (.lst c)) a (uw a c)=H5 at I5
 have M:sj a l H5:=by
  subst T;exact sj.upd.trans (sj.upd.trans sj.upd)
 have ho5:H5 a=some (uw a c):=by subst T;exact aa
 have O:sj a U H5:=(sj.of t).trans M;refine⟨L,H5,I5,qq H5 c O ho5 (A.kp (M.kp B)) L (er.kp (O.kp ho))⟩
def oU(i:Nat)(A:SE X e f)(B:X.N[i]?=some x:=by rfl)(y:Do X.env.scope x:=by first | exact Or.inl rfl | exact Or.inr (Or.inl rfl) | exact Or.inr (Or.inr rfl))(hd:(x==("__debug__" : Str))=false:=by decide)(m:(x==("__classdict__" : Str))=false:=by decide)
  (c:attributeBase (.Name x j) "append" X.env (eval (.Name x j) X.env)=eval (.Name x j) X.env:=by rfl) (l:noStar e=true:=by rfl)
  (b:(s.endLine==r.line)=true:=by rfl) (z:swapsWith (.Call (.Attribute (.Name x j) "append" s) [e] [] r) none pos.line X.env=pure false:=by rfl) :
  OS X (.Expr (.Call (.Attribute (.Name x j) "append" s) [e] [] r) pos) (Au i f):=by
 refine kZ (g:=λds d=>if ds.length<sizeLine then some (ds++[d]) else none) (f:=f) i PySem.F.slot_list_append PySem.F.type_list_append fX ?_ ?_ A B y hd m c l b z
 ·intro ρ ds o n h
  obtain⟨d,C,h⟩:=d7 h;split at h
  ·rename_i k
   cases h;exact⟨k.1,rfl,d,C,Wc k.2⟩
  ·cases h
 ·intro H a xs v ds n d Q E t w e q
  split at e
  ·rename_i k
   cases e;exact⟨a,xs,v,rfl,rfl,aa,by rw[<- t.length];exact k,q _ (t.append (g7.one w))⟩
  ·cases e
def oO(i:Nat)(J:SE X e f)(K:X.N[i]?=some x:=by rfl)(E:Do X.env.scope x:=by first | exact Or.inl rfl | exact Or.inr (Or.inl rfl) | exact Or.inr (Or.inr rfl))(hd:(x==("__debug__" : Str))=false:=by decide)(r:(x==("__classdict__" : Str))=false:=by decide)
  (j:attributeBase (.Name x k) "extend" X.env (eval (.Name x k) X.env)=eval (.Name x k) X.env:=by rfl) (m:noStar e=true:=by rfl)
  (c:(y.endLine==w.line)=true:=by rfl) (G:swapsWith (.Call (.Attribute (.Name x k) "extend" y) [e] [] w) none pos.line X.env=pure false:=by rfl) :
  OS X (.Expr (.Call (.Attribute (.Name x k) "extend" y) [e] [] w) pos) (y8 i f):=by
 refine kZ (g:=λds d=>match d with | .lst es=>if ds.length+es.length<=sizeLine then some (ds++es) else none | _=>none) (f:=f) i PySem.F.slot_list_extend PySem.F.type_list_extend kq ?_ ?_ J K E hd r j m c G
 ·intro ρ ds o t h
  obtain⟨d,L,h⟩:=d7 h;cases d with
  | lst es =>
   dsimp only at h;split at h
   ·rename_i l
    cases h;exact⟨l.1,rfl,_,L,Wc l.2⟩
   ·cases h
  | _=>cases h
 ·intro H a xs v ds t d Q I B C e q
  cases d with
  | lst es =>
   dsimp only at e;split at e
   ·rename_i l
    cases e;obtain⟨b,zs,rfl,s,A⟩:=C
    have n:b≠a:=λz=>by
     rw[z,I] at s;cases s
    exact⟨a,b,xs,zs,rfl,rfl,aa,by rw[ac n];exact s,by rw[<- B.length,<- A.length];exact l,q _ (B.append A)⟩
   ·cases e
  | _=>cases e
def ng(h1:OS X st p)(s:OB X sts w):OB X (st::sts) (uj p w):=(aS h1 s).imp λE z H g=>by
 obtain⟨ρ,j,a,ds,xs,o,t,r,n,e,k⟩:=g;obtain⟨⟨l,b⟩,v,e⟩:=d7 e;refine⟨ρ,j,a,ds,xs,l,b,t,r,n,v,λy c k1 h f=>?_⟩;cases l with
 | nx ρ2=>exact λm i=>⟨ρ2,j,a,b,c,o,i,h,f,e,λx k2=>k x (k1.trans k2)⟩
 | rt d=>cases e;exact k y k1
 | bk ρ2=>cases e
 | ct ρ2=>cases e
def o_(h:SS X sts u):OB X sts (wn u):=by
 intro b s r H E I f;obtain⟨ρ,n,a,ds,xs,o,m,g,v,e,w⟩:=f;have y:=D5 I g;have k:sj a H (upd H a (.lst xs)):=sj.upd;have c:=ft m;have l:=m.kp (k.kp g);refine h b s r _ E y ⟨ρ++[some (D.lst ds)],n,o,⟨⟨?_,λi d hd=>?_⟩,?_⟩,(show u (ρ++[some (D.lst ds)])=some o from e),λz t=>w z (k.trans (sj.of t))⟩
 ·have:=(Wm.mp c).1
  rw[WB,List.length_singleton];exact this
 ·by_cases x:i<ρ.length
  ·rw[WV x] at hd
   exact l.1.2 i d hd
  ·by_cases j:i=ρ.length
   ·subst j
    rw[WI (Wl _),Nat.sub_self] at hd;cases hd;exact⟨_,c,a,xs,rfl,aa,v.kp (k.kp g)⟩
   ·rw[W8 (by simp;omega)] at hd
    cases hd
 ·rw[WB,List.length_singleton,<- List.drop_drop,m.2]
  rfl
def oH(i:Nat)(hN:X.N.Nodup)(W:SA X es F)(Q:OB X sts w)(O:X.N[i]?=some x:=by rfl)(hx:Loc X.env.scope x:=by first | exact Or.inl rfl | exact Or.inr rfl)
  (hl:Nat.ble es.length 1000=true:=by rfl) (hs:swapsWith (.List es U) (some (.Name x T)) pos.line X.env=pure false:=by rfl) (hf:X.fn x=true\/X.env.scope.names.lookup x=some .local:=by first | exact .inl rfl | exact .inr rfl) :
  SS X (.Assign [.Name x T] (.List es U) pos::sts) (Ft i F w):=by
 intro h s A H E I L;obtain⟨ρ,S,o,C,e,qq⟩:=L;obtain⟨ds,Y,e⟩:=d7 e;split at e
 case isFalse=>cases e
 case isTrue hlen =>
 refine wpAny_execs_cons (rg ((cR (i:=i) hN O hx (gT W.1) hs hf) h s A H {E with nx:=λr G=>∃a g c,r=A.set i (some (.ref a))/\G=upd c a (.lst g)/\c a=none/\g6 H c/\g7 X.K c ds g} I ?_) λf s1 q=>?_)
 ·refine⟨ρ,ds,C.1,Y,λg c s1 r1=>⟨?_,λa B=>⟨a,g,c,rfl,rfl,B,s1,r1⟩⟩⟩
  rw[<- r1.length,W.2.1 ρ ds Y];exact Nat.le_of_lt (wK (Nat.le_of_ble_eq_true hl))
 cases f with
 | next =>
  obtain⟨r,G,I',a,g,c,rfl,rfl,B,m,r1⟩:=q;have Z:=AD I' aa;generalize y:upd (upd c a (.lst g)) a (uw a g)=H2 at Z
  have J:sj a c H2:=by
   subst y;exact sj.upd.trans sj.upd
  have l:g6 c H2:=λb u n=>J b u (λz=>by rw[z,B] at n;cases n) n
  have M:H2 a=some (uw a g):=by subst y;exact aa
  have t:i<A.length:=Wv (by omega) C.1.1;refine Q h s1 _ H2 E Z ⟨ρ.take i,S,a,ds,g,o,⟨⟨?_,λj d hd=>?_⟩,?_⟩,M,r1.mono l,e,λG k=>qq G λb u n=>?_⟩
  ·simp
   omega
  ·have hj:j<i:=by
    have:=(Wm.mp hd).1;simp at this;omega
   rw[List.getElem?_take_of_lt hj] at hd;obtain⟨v,h1,Q⟩:=C.1.2 j d hd;exact⟨v,by rw[W7 (by omega)];exact h1,(Q.mono m).mono l⟩
  ·have hd:A.drop (i+1)=S:=by rw[<- hlen];exact C.2
   rw[Xn,Nat.min_eq_left (by omega),W6 (by simpa using t)];congr 1
   ·simp
   ·rw[List.drop_set_of_lt (by omega)]
    exact hd
  ·have P:=l _ _ (m _ _ n)
   exact k b u (λz=>by
    have q:=m _ _ n;rw[z,B] at q;cases q) P
 | brk=>exact q
 | cont=>exact q
 | ret v=>exact q
end
mutual
theorem dJ:∀d:D,qS d=true->(toPy d).canLay0=true
 | .non,_=>by simp[toPy,PyData.canLay0]
 | .bl _,_=>by simp[toPy,PyData.canLay0]
 | .int _,_=>by simp[toPy,PyData.canLay0]
 | .str _,h=>by rw[qS] at h;simpa [toPy,PyData.canLay0,PyData.strOk] using h
 | .tup ds,h=>by rw[toPy,PyData.canLay0];exact dh ds h
 | .lst ds,h=>by rw[toPy,PyData.canLay0];exact dh ds h
 | .fro ds,h=>by rw[toPy,PyData.canLay0];exact dh ds h
 | .obj ..,h=>by cases h
 | .dct ..,h=>by cases h
 | .dcp ..,h=>by cases h
 | .cl ..,h=>by cases h
theorem dh:∀ds:LD,q_ ds=true->PyData.canLayAll0 (tm ds)=true
 | [],_=>by simp[tm,PyData.canLayAll0]
 | d::ds,h=>by
  have h':(qS d&&q_ ds)=true:=h;rw[Wj] at h';rw[tm,PyData.canLayAll0,dJ d h'.1,dh ds h'.2];rfl
end
mutual
theorem jd:∀d:D,uF d=true->(toPy d).depth=rZ d
 | .non,_=>by simp[toPy,PyData.depth,rZ]
 | .bl _,_=>by simp[toPy,PyData.depth,rZ]
 | .int _,_=>by simp[toPy,PyData.depth,rZ]
 | .str _,_=>by simp[toPy,PyData.depth,rZ]
 | .tup ds,h=>by rw[toPy,PyData.depth,rZ,eZ ds h]
 | .lst ds,h=>by rw[toPy,PyData.depth,rZ,eZ ds h]
 | .fro ds,h=>by rw[toPy,PyData.depth,rZ,eZ ds h]
 | .obj ..,h=>by cases h
 | .dct ..,h=>by cases h
 | .dcp ..,h=>by cases h
 | .cl ..,h=>by cases h
theorem eZ:∀ds:LD,rW ds=true->PyData.depthAll (tm ds)=rP ds
 | [],_=>by simp[tm,PyData.depthAll,rP]
 | d::ds,h=>by
  have h':(uF d&&rW ds)=true:=h;rw[Wj] at h';rw[tm,PyData.depthAll,rP,jd d h'.1,eZ ds h'.2]
end
mutual
theorem Dv:∀x y:D,uF x=true->uF y=true->PyData.eqv (toPy x) (toPy y)=zB x y
 | .non,y,_,h=>by cases y<;>first | rfl | cases h
 | .bl a,y,_,h=>by cases y<;>first | rfl | cases h
 | .int a,y,_,h=>by cases y<;>first | rfl | cases h
 | .str a,y,_,h=>by cases y<;>first | rfl | cases h
 | .tup xs,y,g,h=>by
  cases y with
  | tup ys=>exact wI xs ys g h
  | obj _ _ _ _=>cases h
  | dct _ _=>cases h
  | dcp _ _=>cases h
  | cl _ _ _=>cases h
  | _=>rfl
 | .lst xs,y,g,h=>by
  cases y with
  | lst ys=>exact wI xs ys g h
  | fro ys=>exact wI xs ys g h
  | obj _ _ _ _=>cases h
  | dct _ _=>cases h
  | dcp _ _=>cases h
  | cl _ _ _=>cases h
  | _=>rfl
 | .fro xs,y,g,h=>by
  cases y with
  | lst ys=>exact wI xs ys g h
  | fro ys=>exact wI xs ys g h
  | obj _ _ _ _=>cases h
  | dct _ _=>cases h
  | dcp _ _=>cases h
  | cl _ _ _=>cases h
  | _=>rfl
 | .obj ..,y,g,h=>by cases g
 | .dct ..,y,g,h=>by cases g
 | .dcp ..,y,g,h=>by cases g
 | .cl ..,y,g,h=>by cases g
theorem wI:∀xs a:LD,rW xs=true->rW a=true->PyData.eqvAll (tm xs) (tm a)=xM xs a
 | [],[],_,_=>rfl
 | [],_::_,_,_=>rfl
 | _::_,[],_,_=>rfl
 | x::xs,y::a,g,h=>by
  have g':(uF x&&rW xs)=true:=g;have h':(uF y&&rW a)=true:=h;rw[Wj] at g' h';show(PyData.eqv (toPy x) (toPy y)&&PyData.eqvAll (tm xs) (tm a))=(zB x y&&xM xs a);rw[Dv x y g'.1 h'.1,wI xs a g'.2 h'.2]
end
section
variable{X:Cx}
def Cb{k:Nat}(b:rJ k X.A)(h:rZ a<=100)(c:uF a=true):X.A.units+min (toPy a).depth (toPy dy).depth<cLine:=by
 have h1:=b.un;have d:min (toPy a).depth (toPy dy).depth<=100:=by rw[jd a c];omega
 omega
def pf{k:Nat}(l:rJ k X.A):Fo X .Eq EG:=by
 intro a s m H x y v u Q I f d h;obtain⟨c,dy,b,r1,j,e,q⟩:=h;unfold EG at e;split at e
 ·rename_i hd
  cases e;obtain⟨as,i⟩:=vz I (av hd.2.1) r1 f;obtain⟨bs,g⟩:=vz I (av hd.2.2) j d;have z:=SeqAt.rcAt_reads i g (dJ c hd.2.1) (dJ dy hd.2.2) (Cb (dy:=dy) l hd.1 (av hd.2.1));rw[Dv _ _ (av hd.2.1) (av hd.2.2)] at z;exact z _ _ _ _ ⟨.bl (zB c dy),H,I,rfl,q⟩
 ·cases e
def oV{k:Nat}(l:rJ k X.A):Fo X .NotEq uq:=by
 intro a s m H x y v u Q I f d h;obtain⟨c,dy,b,r1,j,e,q⟩:=h;unfold uq EG at e;split at e
 ·rename_i hd
  cases e;obtain⟨as,i⟩:=vz I (av hd.2.1) r1 f;obtain⟨bs,g⟩:=vz I (av hd.2.2) j d;have z:=SeqAt.rcNeAt_reads i g (dJ c hd.2.1) (dJ dy hd.2.2) (Cb (dy:=dy) l hd.1 (av hd.2.1));rw[Dv _ _ (av hd.2.1) (av hd.2.2)] at z;exact PySem.EqBoolInt.of_rcne z ⟨.bl (!zB c dy),H,I,rfl,q⟩
 ·cases e
end
section
variable{prog:Wr}{w:WC}{A:WM}{R':Result->V7->Prop}{I:V_}{fp wr:List V_}{n:Nat}{P:Nat->V5->Prop}{St:Nat->WK->Prop}
abbrev OC:List (Str×V5):=[(oS "default",Value.none)]
abbrev KB(S:V_)(vs:Array V5)(c:Nat)(h:WK):Prop:=h.get? S=some {cls:=.type "list",dict:=none,data:=.seq vs c,slots:=#[]}
def wM:(toString "max" ++ toString ".loop" : String) = "max.loop":=by decide
def OJ(W:Walks prog w A.in1 I fp wr n P St)(p:Nat->Nat->Bool)(r:CmpOf prog w A.in1 .Gt P p)(S:V_)(u:S∉fp):∀(k j:Nat) (s:V7) (g:V5) (c:Nat),n - (j+1)=k->j+1<=n->St (j+1) s.heap->P (argBest p j) g->KB S #[g,g] c s.heap ->
  (∀v h' tk,P (argBest p (n - 1)) v->(∀b o,b∉wr->b≠S->s.heap.get? b=some o->h'.get? b=some o)->R' (.ok (.ret v)) {s with heap:=h',toks:=tk})->codeAny (model prog w) A (.builtin "max.loop" ⟨[.ref I,.none,.ref S],OC⟩) R' s:=by
 have t:S∉wr:=λz=>u (W.sub _ z)
 intro k
 induction k with
 | zero =>
  intro j s g c L M i h x y;have q:j+1=n:=by omega
  refine WR F.entry_max_loop ?_;rw[Around.under_plainId F.plain_max_loop _];show wpAny _ A.in1 (seqItems? (.ref S) >>= _) _ _ s;refine V4 (wpAny_seqItems x rfl ?_);show wpAny _ A.in1 (tryCatch (pyNext (.ref I)) _ >>= _) _ _ s;refine V4 (wpAny_tryCatch (W.done s _ _ (q ▸ i) λh1 H k1=>?_));have f:=k1 S _ t x;show wpAny _ A.in1 (updateSeq S (λ_=>#[]) >>= _) _ _ _;refine V4 (wpAny_updateSeq f rfl (V4 (wpAny_letGo (V8 ?_))));exact y g _ H (by rw[<- q];exact h) λb o a d e=>(WF _ _ (Ne.symm d)).trans (k1 b o a e)
 | succ k ih =>
  intro j s g c L M i h x y;have l:j+1<n:=by omega
  refine WR F.entry_max_loop ?_;rw[Around.under_plainId F.plain_max_loop _];show wpAny _ A.in1 (seqItems? (.ref S) >>= _) _ _ s;refine V4 (wpAny_seqItems x rfl ?_);show wpAny _ A.in1 (tryCatch (pyNext (.ref I)) _ >>= _) _ _ s;refine V4 (wpAny_tryCatch (W.item (j+1) s _ _ l i λv h1 H K st1 k1=>?_));have f:=k1 S _ t x;show wpAny _ A.in1 (tryCatch (holding [v,v] (richCompare .Gt v g >>= _)) _ >>= _) _ _ _;refine V4 (wpAny_tryCatch (wpAny_holding (V4 (r (j+1) (argBest p j) v g _ _ _ K h ?_))));refine V4 (wpAny_holding (wpAny_truthy_bool ?_));refine V4 (wpAny_letGo (V8 ?_));cases J:p (j+1) (argBest p j) with
  | true =>
   simp only[if_true];refine V4 (wpAny_updateSeq f rfl (V4 (wpAny_letGo ?_)));rw[wM];refine V8 ⟨plainId_quiet F.plain_max_loop _,ih (j+1) _ v _ (by omega) l (W.frame _ _ _ st1 λb E o e=>?_) (by simp only[argBest,J,if_true];exact K) (WX _ f rfl) λB G C m k2=>?_⟩
   ·refine(WF _ _ λz:S=b=>u ?_).trans e;rw[z];exact E
   ·refine y B G C m λb o a d e=>k2 b o a d ?_;exact(WF _ _ (Ne.symm d)).trans (k1 b o a e)
  | false =>
   simp only[Bool.false_eq_true,if_false];refine V4 (wpAny_letGo ?_);rw[wM];refine V8 ⟨plainId_quiet F.plain_max_loop _,ih (j+1) _ g c (by omega) l st1 (by simp only[argBest,J,Bool.false_eq_true,if_false];exact h) f λB G C m k2=>?_⟩;refine y B G C m λb o a d e=>k2 b o a d ?_;exact k1 b o a e
def Kt(W:Walks prog w A.in1 I fp wr n P St)(p:Nat->Nat->Bool)(h:CmpOf prog w A.in1 .Gt P p)(S:V_)(f:S∉fp){c:Nat}(g:St 0 s.heap)(r:KB S #[] c s.heap)
  (h0:n=0->∀h' tk,(∀b o,b∉wr->b≠S->s.heap.get? b=some o->h'.get? b=some o)->R' (.ok (.ret .none)) {s with heap:=h',toks:=tk})
  (x:0<n->∀v h' tk,P (argBest p (n - 1)) v->(∀b o,b∉wr->b≠S->s.heap.get? b=some o->h'.get? b=some o)->R' (.ok (.ret v)) {s with heap:=h',toks:=tk}):codeAny (model prog w) A (.builtin "max.loop" ⟨[.ref I,.none,.ref S],OC⟩) R' s:=by
 have l:S∉wr:=λz=>f (W.sub _ z)
 refine WR F.entry_max_loop ?_;rw[Around.under_plainId F.plain_max_loop _];show wpAny _ A.in1 (seqItems? (.ref S) >>= _) _ _ s;refine V4 (wpAny_seqItems r rfl ?_);show wpAny _ A.in1 (tryCatch (pyNext (.ref I)) _ >>= _) _ _ s;by_cases j:0<n
 ·refine V4 (wpAny_tryCatch (W.item 0 s _ _ j g λv h1 q y st1 k1=>?_));have i:=k1 S _ l r
  show wpAny _ A.in1 (updateSeq S (λ_=>#[v,v]) >>= _) _ _ _;refine V4 (wpAny_updateSeq i rfl ?_);rw[wM];refine V8 ⟨plainId_quiet F.plain_max_loop _,OJ W p h S f _ 0 _ v _ rfl j (W.frame _ _ _ st1 λb k o e=>?_) y (WX _ i rfl) λt B u m k2=>?_⟩
  ·refine(WF _ _ λz:S=b=>f ?_).trans e;rw[z];exact k
  ·refine x j t B u m λb o a d e=>k2 b o a d ?_;exact(WF _ _ (Ne.symm d)).trans (k1 b o a e)
 ·have hz:n=0:=by omega
  refine V4 (wpAny_tryCatch (W.done s _ _ (hz ▸ g) λh1 q k1=>?_));refine V4 (wpAny_rule (V8 ?_));exact h0 hz h1 q λb o a d e=>k1 b o a e
end
section
variable{prog:Wr}{w:WC}{A:WM}{E:V5->V7->Prop}{s:V7}
def IR(a:V5):argsOk "max" ⟨[a],OC⟩:=by unfold argsOk;kernel_rfl
def dI{l:V_}{a:List V5}{val:Nat->Int}{Q:V5->V7->Prop}(G:A.handled=none)(p:s.heap.IsList l a.toArray)(B:∀(i:Nat) v,a.toArray[i]?=some v->∃t,v=.int (val i) t)
  (h0:a=[]->∀h' tk,(∀b o,s.heap.get? b=some o->h'.get? b=some o)->Q .none {s with heap:=h',toks:=tk})
  (h1:a ≠ []->∀v h' tk,a.toArray[argBest (λi j=>decide (val i > val j)) (a.length - 1)]?=some v->(∀b o,s.heap.get? b=some o->h'.get? b=some o)->Q v {s with heap:=h',toks:=tk}) :
  wpAny (model prog w) A (call (.builtin "max") [.ref l] OC) Q E s:=by
 refine wpAny_call (codeAny_call_builtin F.plain_max F.entry_max ?_);simp only[checkBuiltinCall,F.kind_max]
 have d:wpAny (model prog w) A.in1 (Builtin.«max» ⟨[.ref l],OC⟩) (λfin h=>match fin with
   | .done f=>(match (Except.ok f:Result) with
    | .ok (.ret v)=>Q v h
    | .ok _=>False
    | .error e=>E e h)
   | .again c'=>c'.quiet=true/\codeAny (model prog w) A c' (λr h=>match r with
    | .ok (.ret v)=>Q v h
    | .ok _=>False
    | .error e=>E e h) h) E s:=by
  show wpAny _ A.in1 (Builtin.Builtins.bindParams "max" ["key","default"] 0 ⟨[],OC⟩ >>= _) _ _ s;refine V4 (wpAny_of_eq (show Builtin.Builtins.bindParams "max" ["key","default"] 0 ⟨[],OC⟩=pure [none,some .none] from rfl) ?_);refine V4 (V8 (V4 (wpAny_pyIter_list p ?_)));refine V4 (WO ?_);rw[wM]
  have c:l<s.heap.objs.size:=by
   obtain⟨o,e,_⟩:=p;exact Wp e
  generalize hI:s.heap.objs.size=J at c;generalize g:s.heap.push {cls:=Value.type "list_iterator",data:=Data.fields #[Value.ref l,Value.int 0 0]}=H1;have y:H1.objs.size=J+1:=by rw[<- g,Heap.size_push,hI]
  have k1:∀b o,s.heap.get? b=some o->H1.get? b=some o:=λb o e=>by rw[<- g];exact V6 _ e
  have st1:H1.IsListIter J l 0/\H1.IsList l a.toArray:=⟨by rw[<- g,<- hI];exact⟨_,Wf _ rfl,rfl,rfl⟩,p.at λo e=>k1 _ _ e⟩
  have n:l≠J:=WA c
  have q:H1.objs.size ∉ [J,l]:=by
   rw[y];intro z;rcases Wo.mp z with z | z
   ·exact Wz z (Nat.ne_of_gt (Xp J))
   ·rw[<- Wh.mp z] at c
    exact Wz c (Nat.not_lt.mpr (Nat.le_succ J))
  have W:=Walks.list (prog:=prog) (w:=w) (A:=A.in1) G J l n a.toArray
  have k:∀{h':WK},(∀b o,b ∉ [J]->b≠H1.objs.size->(H1.push {cls:=Value.type "list",data:=Data.seq ([]:List V5).toArray}).get? b=some o->h'.get? b=some o)->∀b o,s.heap.get? b=some o->h'.get? b=some o:=λkk b o e=>by
   have u:b<J:=by rw[<- hI];exact Wp e
   refine kk b o (λz=>Wz (Wh.mp z) (WA u)) ?_ (V6 _ (k1 b o e));rw[y];exact WA (Nat.lt_succ_of_lt u)
  refine V8 ⟨plainId_quiet F.plain_max_loop _,Kt W _ (CmpOf.ints_gt val B) H1.objs.size q (W.frame _ _ _ st1 λb _ o e=>V6 _ e) (Wf _ rfl) (λhz h' tk kk=>?_) λC v h' tk H kk=>?_⟩
  ·exact h0 (by simpa using hz) h' tk (k kk)
  ·refine h1 (λz=>by subst z;simp at C) v h' tk ?_ (k kk)
   simpa using H
 cases m:Manifest.signature? "max" with
 | none=>exact V8 d
 | some sig =>
  have x:=IR (.ref l);simp only[argsOk,m] at x;have I:Bind.checkArgs "max" sig ⟨[.ref l],OC⟩=pure ():=x;show wpAny _ A.in1 (Bind.checkArgs "max" sig ⟨[.ref l],OC⟩) _ _ s;rw[I];exact V8 d
end
section
variable{X:Cx}
def LV(e:Cq ds=some d):(ds=[.lst []]/\d=.non)\/(∃a,ds=[.lst [.int a]]/\d=.int a)\/∃a b,ds=[.lst [.int a,.int b]]/\d=.int (if b > a then b else a):=by
 obtain⟨x,rfl,e⟩:=tX e;obtain⟨l,c,e⟩:=d7 e;cases DK c;cases l with
 | nil=>cases e;exact .inl ⟨rfl,rfl⟩
 | cons x l=>cases l with
  | nil =>
   obtain⟨a,c,rfl⟩:=q8 e;cases BX c;exact .inr (.inl ⟨_,rfl,rfl⟩)
  | cons y l=>cases l with
   | nil =>
    obtain⟨a,c,e⟩:=d7 e;obtain⟨b,f,rfl⟩:=q8 e;cases BX c;cases BX f;exact .inr (.inr ⟨_,_,rfl,rfl⟩)
   | cons=>cases e
def np{j:Nat}(hc:X.calm=true)(hm:X.mg "max" = none)(he:SE X e f)(hg:Gl X "max":=by rfl)(G:noStar e=true:=by rfl) :
  SE X (.Call (.Name "max" p) [e] [⟨some "default",.Constant .none j p2,kp⟩] pos) (d3 Cq (b8 f d4)):=by
 intro E s Z H Q I t;obtain⟨ρ,d,er,eq,q⟩:=t;obtain⟨ds,e1,e2⟩:=d7 eq;have m:=ad [] X.env G;refine Xk (aE I hg hm boot_max ?_ (by decide) (by decide));refine callWith_kw (rg ((aj he aD G).1 pos E s Z H (λN W=>g6 H W/\g7 X.K W ds N) I ⟨ρ,ds,er,e1,λN W s2 r2=>⟨s2,r2⟩⟩) λus s1 t=>?_) (by rw[m];rfl) (by rw[m];rfl) rfl rfl;obtain⟨N,r,o,r1,h,S⟩:=t;refine kws_cons (Constant_none (kws_nil ?_));have T:=o.ok.hd hc;rcases LV e2 with ⟨rfl,rfl⟩ | ⟨a1,rfl,rfl⟩ | ⟨a1,a2,rfl,rfl⟩
 ·obtain⟨v,C,rfl,⟨a,xs,rfl,J,x⟩,B⟩:=S
  cases (show C=[] from B);cases (show xs=[] from x);obtain⟨u,rfl,A⟩:=r1.one;cases (show u=_ from A);obtain⟨_,F,n,y,Y,L⟩:=o.lstM J;cases y;exact dI (val:=λ_=>0) T ⟨_,L,rfl,n,rfl⟩ (λi v b=>by simp at b) (λ_ h' tk k=>⟨.non,r,o.kept k,rfl,q _ r h rfl⟩) λz=>Wz rfl z
 ·obtain⟨v,C,rfl,⟨a,xs,rfl,J,x⟩,B⟩:=S
  cases (show C=[] from B);obtain⟨x1,x2,rfl,P,O⟩:=x;cases (show x1=_ from P);cases (show x2=[] from O);obtain⟨u,rfl,A⟩:=r1.one;cases (show u=_ from A);obtain⟨_,F,n,y,Y,L⟩:=o.lstM J;obtain⟨w1,rfl,g,rfl⟩:=y.one;refine dI (val:=λ_=>a1) T ⟨_,L,rfl,n,rfl⟩ (λi v b=>?_) (λz=>by cases z) λ_ v h' tk b k=>?_
  ·have z:=(Array.getElem?_eq_some_iff.mp b).1
   have M:i=0:=by simpa using z
   subst M;exact⟨g,(Wq b).symm⟩
  ·have c:Value.int a1 g=v:=Wq b
   subst c;exact⟨.int a1,r,o.kept k,⟨g,rfl⟩,q _ r h rfl⟩
 ·obtain⟨v,C,rfl,⟨a,xs,rfl,J,x⟩,B⟩:=S
  cases (show C=[] from B);have hx:=ints2 x;subst hx;obtain⟨u,rfl,A⟩:=r1.one;cases (show u=_ from A);obtain⟨_,F,n,y,Y,L⟩:=o.lstM J;obtain⟨w1,w2,rfl,⟨g,rfl⟩,⟨w,rfl⟩⟩:=vals2 y;refine dI (val:=λi=>if i=0 then a1 else a2) T ⟨_,L,rfl,n,rfl⟩ (λi v b=>?_) (λz=>by cases z) λ_ v h' tk b k=>?_
  ·have z:=(Array.getElem?_eq_some_iff.mp b).1
   have M:i=0\/i=1:=by
    have:i<2:=by simpa using z
    omega
   rcases M with rfl | rfl
   ·exact⟨g,(Wq b).symm⟩
   ·exact⟨w,(Wq b).symm⟩
  ·by_cases l:a2 > a1
   ·have U:argBest (λi j=>decide ((if i=0 then a1 else a2) > (if j=0 then a1 else a2))) ([Value.int a1 g,Value.int a2 w].length - 1)=1:=by simp[argBest,l]
    rw[U] at b;have c:Value.int a2 w=v:=Wq b;subst c;exact⟨.int a2,r,o.kept k,⟨w,rfl⟩,q _ r h (by show V.int a2=V.int _;rw[Wc l])⟩
   ·have U:argBest (λi j=>decide ((if i=0 then a1 else a2) > (if j=0 then a1 else a2))) ([Value.int a1 g,Value.int a2 w].length - 1)=0:=by simp[argBest,l]
    rw[U] at b;have c:Value.int a1 g=v:=Wq b;subst c;exact⟨.int a1,r,o.kept k,⟨g,rfl⟩,q _ r h (by show V.int a1=V.int _;rw[Wu l])⟩
end
section
open PySem.SeqAt
open AutoSeq1 (wpAny_loadPart')
open MeetsSeq MeetsSeq2 MeetsSeq3 SeqRoads2
def BY(l:V_)(a:Array V5)(n:Nat)(dd:V3 V_)(r:Array (V3 V5))(x:V5)(j:Nat)(z:j<a.size) :
  Meets (Builtin.«tuple.index» ⟨[.ref l,x],[]⟩) (λA R s=>s.heap.get? l=some {cls:=.type "tuple",dict:=dd,data:=.seq a n,slots:=r}/\(∀i (h:i<a.size),i<=j->EqAt A.in1 s a[i] x (decide (i=j)))/\R (.ok (.ret (.int (j:Int) s.toks))) {s with toks:=s.toks+1}):=
 .of_wp λprog w A R s h=>by
  obtain⟨t,g,d,tk,os⟩:=s;obtain⟨u,y,h⟩:=h;unfold Builtin.«tuple.index»;simp only[Std.Legacy.Range.forIn_eq_forIn_range']
  wp_walk using wpAny_loadPart' u,wpAny_forIn_list _ (λc b o=>o=⟨t,g,d,tk,os⟩/\b=(none,())/\∃k,k<=j/\c=List.range' k (a.size - k)) _
  case turn =>
   rintro i c b o ⟨rfl,rfl,k,q,e⟩;have p:a.size - k=(a.size - (k+1))+1:=by omega
   rw[p,List.range'_succ] at e;cases e;have f:i<a.size:=by omega
   have v:a[i]?=some a[i]:=by simp[f]
   rw[v];refine V4 (y i f q prog w _ _ ?_);by_cases m:i=j
   ·subst m
    rw[WP rfl]
    wp_walk
    exact⟨_,rfl,h⟩
   ·rw[Wx m]
    wp_walk
    exact⟨rfl,rfl,i+1,by omega,rfl⟩
  case fin =>
   rintro b o ⟨rfl,rfl,k,q,e⟩;have p:a.size - k=(a.size - (k+1))+1:=by omega
   rw[p,List.range'_succ] at e;cases e
  case h =>
   refine⟨rfl,rfl,0,W4 _,?_⟩;simp
end
def NN(K:Wb)(mg:Str->V3 V5)(x:Str)(ws:List Str):Prop:=∃a b n c,mg x=some (.ref a)/\K.lookup a=some ⟨.type "tuple",none,.seq b n,c⟩/\qP (ws.map V.str) b.toList
section
variable{X:Cx}
def TX(K:Wb):V->List V->Hp->VK->Prop:=λx b H Q=>∃(p:V_) (a:Array V5) (n:Nat) (c:Array (V3 V5)) (ws:List Str) (z:Str) (j:Nat),x=.ref p/\b=[.str z]/\K.lookup p=some ⟨.type "tuple",none,.seq a n,c⟩/\qP (ws.map V.str) a.toList/\ws.findIdx? (·==z)=some j/\Q (.int (j:Nat)) H
def oy:RH X "tuple.index" (TX X.K):=by
 intro d s M H x N v us Q I l m h;obtain⟨p,a,n,k,ws,z,j,rfl,rfl,A,f,B,q⟩:=h;cases (show v=_ from l);obtain⟨u,rfl,t,rfl⟩:=m.one;have e:=I.kIn p _ A;obtain⟨h1,L,J⟩:=List.findIdx?_eq_some_iff_getElem.mp B;have g:ws.length=a.size:=by have:=f.length;simpa using this
 refine call_meets F.slot_tuple_index ⟨_,e,rfl⟩ F.entry_tuple_index (F.args_tuple_index_2 _ _) (BY p a n none k (.str z t) j (by omega)) ⟨e,λi C y=>?_,?_⟩
 ·have r:i<ws.length:=by omega
  obtain⟨u,w,o⟩:=f.get (i:=i) (x:=.str ws[i]) (by simp[r]);obtain⟨c,rfl⟩:=o
  have E:a[i]=Value.str ws[i] c:=by
   have:a[i]?=some (Value.str ws[i] c):=by simpa using w
   rw[Xa C] at this;exact Wq this
  rw[E]
  have G:(ws[i]==z)=decide (i=j):=by
   by_cases b:i=j
   ·subst b
    rw[WP rfl];exact L
   ·rw[Wx b]
    exact Bool.eq_false_iff.mpr (J i (by omega))
  rw[<- G];exact SeqAt.EqAt.str_str _ _ _ _
 ·exact⟨.int (j:Nat),H,I.tok _,⟨_,rfl⟩,q⟩
def oX(C:NN X.K X.mg x ws)(B:SE X e f)(A:Gl X x:=by rfl)(hd:(x==("__debug__" : Str))=false:=by decide)
  (c:attributeBase (.Name x h) "index" X.env (eval (.Name x h) X.env)=eval (.Name x h) X.env:=by rfl) (g:noStar e=true:=by rfl) (b:(p.endLine==o.line)=true:=by rfl) :
  SE X (.Call (.Attribute (.Name x h) "index" p) [e] [] o) (NV (Lc ws) f):=by
 obtain⟨a,i,n,r,w,m,u⟩:=C;have l:=ad [] X.env g;refine(jC (T:="tuple") PySem.F.plainAttrs_tuple PySem.F.slot_tuple_index PySem.F.type_tuple_index oy (ge (v:=.ref a) A w rfl hd) (aj B aD g).1 c (by rw[l];rfl) b l rfl).imp λN H Q k=>?_
 obtain⟨ρ,d,G,e,q⟩:=k;obtain⟨y,L,e⟩:=d7 e;cases y with
 | str z =>
  obtain⟨j,J,I⟩:=q8 e;subst I;refine⟨.inr (.inl ⟨rfl,_,m,rfl,rfl⟩),ρ,[.str z],G,by show(f ρ).bind _=_;rw[L];rfl,λO M s2 s=>?_⟩;obtain⟨v,t,rfl,h1,E⟩:=s;cases (show v=_ from h1);cases (show t=[] from E);exact⟨a,i,n,r,ws,z,j,rfl,rfl,m,u,J,q _ M s2 rfl⟩
 | _=>cases e
end
section
variable{X:Cx}
def VI:V->List V->Hp->VK->Prop:=λx a H Q=>∃z w,x=.str z/\a=[]/\Hl z=some w/\Q (.str w) H
def N3(h:Hl z=some w):Builtin.Str.tooLong (placed z λ_ c=>Unicode.upperOf c).size=false/\(⟨placed z λ_ c=>Unicode.upperOf c⟩:Str)=w:=by
 unfold Hl at h;split at h
 ·rename_i e;cases h;subst e;exact⟨by decide +kernel,by decide +kernel⟩
 ·split at h
  ·rename_i e;cases h;subst e;exact⟨by decide +kernel,by decide +kernel⟩
  ·split at h
   ·rename_i e;cases h;subst e;exact⟨by decide +kernel,by decide +kernel⟩
   ·cases h
def pZ:RH X "str.upper" VI:=by
 intro a s f H x g v us Q I c d h;obtain⟨z,w,rfl,rfl,hz,q⟩:=h;obtain⟨t,rfl⟩:=c;cases d;obtain⟨b,e⟩:=N3 hz;exact call_gives F.slot_str_upper (typeIs_str s z t) F.entry_str_upper (F.args_str_upper_1 _) (gives_str_upper z t b) ⟨Nat.le_of_not_lt (of_decide_eq_false b),.str w,H,I.tok _,⟨_,by rw[e]⟩,q⟩
def qk(j:SE X a f)(c:attributeBase a "upper" X.env (eval a X.env)=eval a X.env:=by rfl)(b:(i.endLine==h.line)=true:=by rfl) :
  SE X (.Call (.Attribute a "upper" i) [] [] h) (NV Tz f):=(oN (T:="str") PySem.F.plainAttrs_str PySem.F.slot_str_upper PySem.F.type_str_upper pZ j c b).imp λp H Q g=>by
 obtain⟨ρ,d,k,e,q⟩:=g;obtain⟨x,n,e⟩:=d7 e;cases x with
 | str z =>
  obtain⟨w,m,l⟩:=q8 e;subst l;exact⟨ρ,_,k,n,λv o s1 r1=>by cases (show v=_ from r1);exact⟨rfl,z,w,rfl,rfl,m,q _ o s1 rfl⟩⟩
 | _=>cases e
end
section
variable{X:Cx}{i k:Nat}{fa:V_}{e a:WG}{es:List WG}{pos p:Pos}{f:R->OD}{F:R->V3 LD}{G:LD->OD}
def Uw(i:Nat)(fa:V_)(b:L2.St):Prop:=b[i]?=some (some (.ref fa))
def Qp(X:Cx)(i:Nat)(fa:V_)(e:WG)(f:R->OD):Prop:=PE X e (λb H Q=>Uw i fa b/\tD X.K f b H Q)
def RP(X:Cx)(i:Nat)(fa:V_)(es:List WG)(F:R->V3 LD):Prop:=PA X es (λb H Q=>Uw i fa b/\Vf X.K F b H Q)/\(∀ ρ ds,F ρ=some ds->ds.length=es.length)/\es.all noStar=true
def T9(X:Cx)(i:Nat)(fa:V_)(st:Xi)(g:R->V3 Out):Prop:=PS X st (λE b H=>Uw i fa b/\Rf X.K g E b H)
def RN(P:Wr)(w:WC)(K:Wb)(mg:Str->V3 V5)(base:WK)(k:Nat)(fa:V_)(G:LD->OD):Prop:=∃fd ps,rM P w K mg base vq k fa fd ps (NT K G)/\W.keepIn K (.ref fa)=true/\Binds K fd ps []
def Q0{K:Wb}(C:GF P w K mg base k x ps G)(h:mg x=some (.ref fa)):RN P w K mg base k fa G:=by
 obtain⟨f,fd,a,m,kp,bd⟩:=C.ex;rw[h] at m;cases m;exact⟨fd,ps,a,kp,bd⟩
def Qk(h:SE X e f):Qp X i fa e f:=h.imp λ_ _ _ q=>q.2
def QE(h:SA X es F):RP X i fa es F:=⟨h.1.imp λ_ _ _ q=>q.2,h.2⟩
def LN(n:Qp X i fa e f)(c:RP X i fa es F)(h:noStar e=true:=by rfl):RP X i fa (e::es) (b8 f F):=⟨(cM n c.1 (ad es X.env h)).imp λr H Q b=>by
 obtain⟨x,ρ,ds,j,e,q⟩:=b;obtain⟨d,l,e⟩:=d7 e;obtain⟨y,g,e⟩:=q8 e;subst e;exact⟨x,ρ,d,j,l,λv t s1 r1=>⟨x,ρ,y,j.mono s1,g,λs o s2 m=>q _ o (s1.trans s2) (g7.cons (r1.mono s2) m)⟩⟩,λρ ds e=>by
 obtain⟨d,l,e⟩:=d7 e;obtain⟨y,g,e⟩:=q8 e;subst e;simp[c.2.1 ρ y g],by rw[W9,h,c.2.2];rfl⟩
def KH(C:GF X.prog X.w X.K X.mg X.base k x ps G)(n:rJ k X.A)(j:RP X i fa (e::es) F)(o:Gl X x:=by rfl)
  (h:(x==("__debug__" : Str))=false:=by decide):Qp X i fa (.Call (.Name x p) (e::es) [] pos) (d3 G F):=by
 have b:=j.2.2;rw[W9,Wj] at b;have r:=ad es X.env b.1;have g:=aM (pos:=pos) (env:=X.env) b.2;obtain⟨f,fd,a,m,kp,bd⟩:=C.ex;refine(eN a n o m kp bd .nil AB j.1 h r g).imp λy H Q c=>?_
 obtain⟨x,ρ,d,s,e,q⟩:=c;obtain⟨ds,t,e⟩:=d7 e;exact⟨x,ρ,ds,s,t,λz B s1 r1=>⟨ds,d,by rw[WT];exact r1,e,λv u s2 l=>q v u (s1.trans s2) l⟩⟩
def MU{k}(h:RP X i fa es F)(l:Nat.ble es.length 1000=true:=by rfl):Qp X i fa (.Tuple es k pos) (l9 F):=(mf h.1).imp λn H Q b=>by
 obtain⟨x,ρ,d,m,e,q⟩:=b;obtain⟨ds,g,e⟩:=q8 e;subst e;refine⟨x,ρ,ds,m,g,λc o s1 r1=>⟨?_,λp j=>?_⟩⟩
 ·rw[<- r1.length,h.2.1 ρ ds g];exact Nat.le_of_lt (wK (Nat.le_of_ble_eq_true l))
 ·have s2:=ar j (.tup c)
  exact q _ _ (s1.trans s2) ⟨p,c,rfl,tS.of aa,r1.mono s2⟩
def IK(Y:RN X.prog X.w X.K X.mg X.base k fa G)(S:rJ k X.A)(z:SA X (e::es) F)(U:X.N[i]?=some x:=by rfl)(P:Do X.env.scope x:=by first | exact Or.inl rfl | exact Or.inr (Or.inl rfl) | exact Or.inr (Or.inr rfl))
  (hd:(x==("__debug__" : Str))=false:=by decide) (t:(x==("__classdict__" : Str))=false:=by decide):Qp X i fa (.Call (.Name x p) (e::es) [] pos) (d3 G F):=by
 have c:=z.2.2;rw[W9,Wj] at c;have T:=ad es X.env c.1;have o:=aM (pos:=pos) (env:=X.env) c.2;obtain⟨fd,ps,a,kp,bd⟩:=Y;intro b s y H Q I h;obtain⟨E,ρ,d,er,e,q⟩:=h;obtain⟨ds,e1,e⟩:=d7 e;refine Xk (rg (gB (pos:=p) U P hd t b s y H (λv j=>v=.ref fa/\j=H) I ⟨.ref fa,E,rfl,rfl⟩) λu s1 n=>?_);obtain⟨v,j,C,J,Z,eH⟩:=n;subst Z eH;cases (show u=_ from J);refine W.callWith_K (h₀:=X.base) C.ok.mod.kin kp (rg (z.1 pos b s1 y j (λl g=>g6 j g/\g7 X.K g ds l) C ⟨ρ,ds,er,e1,λl g s2 O=>⟨s2,O⟩⟩) λus s2 ⟨l,g,B,r,m,L⟩=>⟨B.kIn,?_⟩) T o;exact Gh a S bd .nil AB B r ⟨ds,d,by rw[WT];exact L,e,λv H3 s3 M=>q v H3 (m.trans s3) M⟩
def Rp(c:Qp X i fa a f):T9 X i fa (.Return (some a) pos) (i5 f):=(gM c).imp λE m H b=>by
 obtain⟨x,ρ,l,o,g,e,q⟩:=b;obtain⟨d,h,e⟩:=q8 e;subst e;exact⟨x,ρ,d,g.1,h,λv j s1 r1=>q j s1 v r1⟩
inductive Tab (P:Wr) (w:WC) (K:Wb) (mg:Str->V3 V5) (base:WK) (k:Nat):List (Str×(LD->OD))->List (Str×V5)->Prop
 | nil:Tab P w K mg base k [] []
 | cons {z:Str} {G:LD->OD} {fa:V_} {t:List (Str×(LD->OD))} {vs:List (Str×V5)}:RN P w K mg base k fa G->Tab P w K mg base k t vs->Tab P w K mg base k ((z,G)::t) ((z,.ref fa)::vs)
def Tab.get{K:Wb}(h:Tab P w K mg base k t b)(e:t.lookup z=some G):∃fa,valueAt b z=some (.ref fa)/\RN P w K mg base k fa G:=by
 induction h with
 | nil=>cases e
 | @cons y G' fa t b h1 h2 ih =>
  unfold valueAt;rw[List.find?_cons];by_cases hz:y=z
  ·subst hz
   rw[List.lookup_cons,beq_self_eq_true] at e;cases e;simp;exact h1
  ·rw[List.lookup_cons,WQ.mpr (λq=>hz q.symm)] at e
   obtain⟨fb,c,d⟩:=ih e;refine⟨fb,?_,d⟩;unfold valueAt at c;simp[hz];simpa using c
def Eo(P:Wr)(w:WC)(K:Wb)(mg:Str->V3 V5)(base:WK)(k:Nat)(T:Str)(t:List (Str×(LD->OD))):Prop:=∃a b,mg T=some (.ref a)/\(∀h:WK,K.In h->h.DictOf (strKind P w) a b)/\Tab P w K mg base k t b
def entries(w:WC):List (Str×Tok×V5)->List DictEntry
 | []=>[]
 | (z,t,v)::r=>{hash:=PyData.keyHash w.params z,key:=.str z t,val:=v}::entries w r
def iQ{K:Wb}{a:V_}{n:Nat}(l:List (Str×Tok×V5))(d:K.lookup a=some ⟨.type "dict",none,.dict (entries w l).toArray n,#[]⟩)(c:(l.map (·.1)).Nodup)(h:WK)(X:K.In h) :
  h.DictOf (strKind P w) a (l.map λp=>(p.1,p.2.2)):=by
 refine⟨_,_,_,X _ _ d,⟨rfl,rfl,rfl⟩,rfl,?_,?_,?_⟩
 ·intro e g
  have b:e∈entries w l:=by simpa using g
  clear g d c
  induction l with
  | nil=>cases b
  | cons p l ih =>
   obtain⟨z,t,v⟩:=p;rcases Wo.mp b with rfl | j
   ·exact⟨z,strKind_is P w z t,rfl⟩
   ·exact ih j
 ·show Pairs _ (entries w l) _
  clear d c
  induction l with
  | nil=>exact .nil
  | cons p l ih =>
   obtain⟨z,t,v⟩:=p;exact .cons (strKind_is P w z t) rfl ih
 ·rw[List.map_map]
  exact c
def sh.hide{K:Wb}(e:sh K H ρ b)(i:Nat)(v:V3 V):sh K H (ρ.set i none) (b.set i v):=by
 refine⟨by simpa using e.1,λj c h=>?_⟩;by_cases d:i=j
 ·subst d
  by_cases g:i<ρ.length
  ·rw[Xl g] at h
   cases h
  ·rw[W8 (by simpa using g)] at h
   cases h
 ·rw[W7 d] at h ⊢
  exact e.2 j c h
def qy{T x:Str}{A P ps:Pos}{st:Xi}{t:List (Str×(LD->OD))}{g:(LD->OD)->R->V3 Out}(i:Nat)(hN:X.N.Nodup)(hT:Eo X.prog X.w X.K X.mg X.base k T t)(he:SE X e f)(hb:∀fa G,RN X.prog X.w X.K X.mg X.base k fa G->T9 X i fa st (g G))
  (hg:Gl X T:=by rfl) (S:X.N[i]?=some x:=by rfl) (hx:Loc X.env.scope x:=by first | exact Or.inl rfl | exact Or.inr rfl) (C:Dp e:=by intro _ _;rfl)
  (hw:swapsWith (.Subscript (.Name T A) e ps) (some (.Name x P)) pos.line X.env=pure false:=by rfl) (hf:X.fn x=true\/X.env.scope.names.lookup x=some .local:=by first | exact .inl rfl | exact .inr rfl) (L:(T==("__debug__" : Str))=false:=by decide) :
  SS X [.Assign [.Name x P] (.Subscript (.Name T A) e ps) pos,st] (RO i t f g):=by
 obtain⟨a,W,hm,hd,ht⟩:=hT
 have J:IxR X (λx y H Q=>∃z fa,x=.ref a/\y=.str z/\valueAt W z=some (.ref fa)/\Q (.ref fa) H):=by
  intro n r b s m H x y v u Q I Z Y h C;obtain⟨z,fa,rfl,rfl,B,q⟩:=h;cases Z;obtain⟨tk,rfl⟩:=Y;have j:=hd s.heap I.kIn;exact tail_any j.mapOf.typeIs PySem.F.slot_dict_getitem.lookup (wpAny_getItem_of (strKind_is X.prog X.w z tk) j.mapOf B ⟨.ref fa,H,I.tok _,rfl,q⟩) C
 have c:=n_ (pos:=ps) J (ge (pos:=A) (v:=.ref a) hg hm rfl L) he C;intro b s m H E I h;obtain⟨ρ,U,o,M,l,q⟩:=h;obtain⟨d,e1,l⟩:=d7 l;cases d with
 | str z =>
  obtain⟨G,e2,O⟩:=d7 l;obtain⟨fa,B,hF⟩:=ht.get e2
  have hl:i<m.length:=by
   rw[I.len];exact(Wm.mp S).1
  split at O
  case isFalse=>cases O
  case isTrue hlt =>
  refine aS (cR hN S hx c hw hf) (bK (hb fa G hF)) b s m H E I ?_;refine⟨ρ,_,M.1,e1,λv H1 s1 r1=>⟨z,fa,rfl,r1,B,?_⟩⟩;refine⟨Xl hl,ρ.set i none,U,o,⟨(M.1.mono s1).hide i _,?_⟩,O,λH2 s2=>q H2 (s1.trans s2)⟩;rw[Xc,List.drop_set_of_lt hlt];exact M.2
 | _=>cases l
end
section
variable{X:Cx}
end
end HW
namespace HW
open PySem
def zb:LD->V3 (List Str)
 | []=>some []
 | d::r=>(sI d).bind λx=>(zb r).map λxs=>x::xs
def HB(a:Str)(xs:List Str):V3 Str:=if xs.toArray.foldl (λn x=>n+x.length+a.length) 0<=sizeLine/\(Builtin.Str.glued a xs).length<=sizeLine then some (Builtin.Str.glued a xs) else none
@[simp] def Aw (l:LD):OD:=Cw (λx y=>(sI x).bind λs=>(lI y).bind λds=>(zb ds.reverse).bind λxs=>(HB s xs).map .str) l
def Pg(x:Str)(n c:Nat):Str:=if n<=x.length then x else Builtin.Str.padded x (n - x.length) 0 c
@[simp] def RL:LD->OD
 | x::l=>(sI x).bind λx=>Cw (λy z=>(nI y).bind λi=>(sI z).bind λf=>if 0<=i/\i<=1000/\f.length=1 then some (.str (Pg x i.toNat (f.cps.getD 0 0))) else none) l
 | _=>none
@[simp] def K0 (x y:D):OD:=(tI x).bind λxs=>(nI y).bind λk=>if xs.length*k.toNat<=sizeLine/\0<k/\k<2 ^ 63 then some (.tup (List.replicate k.toNat xs).flatten) else none
noncomputable def sr(a b c:Int):Nat:=if a<b then ((b - a - 1) / c+1).toNat else 0
def vB(a b c:Int):LD:=(List.range (sr a b c)).map λ(k:Nat)=>D.int (a+(k:Int)*c)
@[simp] def Dq (f g h:R->OD):R->V3 LD:=λρ=>(f ρ).bind λx=>(g ρ).bind λy=>(h ρ).bind λz=>(nI x).bind λi=>(nI y).bind λj=>(nI z).bind λc =>
 if -(2 ^ 60)<=i/\i<2 ^ 60 /\ -(2 ^ 60)<=j/\j<2 ^ 60/\0<c/\c<1073741824 then some (vB i j c) else none
noncomputable def IG(k:Nat):Out->V3 Out
 | .nx ρ=>if k<ρ.length then some (.nx (ρ.set k none)) else none
 | .bk ρ=>if k<ρ.length then some (.bk (ρ.set k none)) else none
 | .ct ρ=>if k<ρ.length then some (.ct (ρ.set k none)) else none
 | .rt d=>some (.rt d)
def Dc(k:Nat)(f:R->V3 Out):R->V3 Out:=λρ=>if k<ρ.length then (f (ρ.set k none)).bind (IG k) else none
@[simp] def Jz (c:R->V3 Bool):R->V3 Out:=λρ=>(c ρ).bind λb=>if b then none else some (.nx ρ)
noncomputable def Dk(xs a:LD):LD:=List.zipWith (λx y=>D.tup [x,y]) xs a
def zl(xs a:LD):(Dk xs a).length=min xs.length a.length:=by simp[Dk]
end HW
namespace HW
open PySem PySem.Spec PyProof.Rows L2
section
variable{X:Cx}{a:WG}{f:R->OD}{pos p2:Pos}
end
def U5(h:us.length=1):∃a,us=[a]:=by
 rcases us with _ | ⟨a,_ | ⟨_,_⟩⟩<;>first | exact⟨_,rfl⟩ | cases h
def ln2(h:us.length=2):∃b a,us=[b,a]:=by
 rcases us with _ | ⟨b,_ | ⟨a,_ | ⟨_,_⟩⟩⟩<;>first | exact⟨_,_,rfl⟩ | cases h
def U9(h:us.length=3):∃c b a,us=[c,b,a]:=by
 rcases us with _ | ⟨c,_ | ⟨b,_ | ⟨a,_ | ⟨_,_⟩⟩⟩⟩<;>first | exact⟨_,_,_,rfl⟩ | cases h
section
variable{X:Cx}
def TL(X:Cx)(id:String)(G:LD->OD):Prop:=RH X id λx c H Q=>∃b ds d,Rep X.K H b x/\g7 X.K H ds c/\G (b::ds)=some d/\∀v a,g6 H a->Rep X.K a d v->Q v a
def qI {a e:WG} {es:List WG} {f:R->OD} {F:R->V3 LD} {G:LD->OD} {name:Str} {id:String} {o j:Pos} (slot:Slot "str" name id)
    (l:typeOf (.builtin id)=pure (.type "method_descriptor")) (s:TL X id G) (w:∀x ds d,G (x::ds)=some d->∃z,x=.str z) (t:SE X a f) (m:SA X (e::es) F)
    (g:attributeBase a name X.env (eval a X.env)=eval a X.env:=by rfl)
    (h:((backTo j (starEach (e::es) X.env)).all (λx=>!x.1)&&(backToKw j (keywordEach [] X.env)).all (λx=>x.1.isSome)
      && decide ((e::es).length+([]:List Keyword).length+(if ([]:List Keyword).isEmpty then 0 else 1)<30))=true:=by rfl)
    (c:(o.endLine==j.line)=true:=by rfl) :
    SE X (.Call (.Attribute a name o) (e::es) [] j) (d3 G (b8 f F)):=by
  have b:=m.2.2;rw[W9,Wj] at b;refine(jC (T:="str") PySem.F.plainAttrs_str slot l s t m.1 g h c (ad es X.env b.1) (aM (pos:=j) (env:=X.env) b.2)).imp λC H Q k=>?_
  obtain⟨ρ,d,n,e,q⟩:=k;obtain⟨dd,i,e⟩:=d7 e;obtain⟨x,A,i⟩:=d7 i;obtain⟨ds,y,i⟩:=q8 i;subst i;obtain⟨z,rfl⟩:=w x ds d e;exact⟨ρ,_,n,A,λv J s1 r1=>⟨by cases (show v=_ from r1);exact rfl,ρ,ds,n.mono s1,y,λE I s2 r=>⟨.str z,ds,d,r1.mono s2,r,e,λu B s3 p=>q u B (s1.trans (s2.trans s3)) p⟩⟩⟩
theorem y9:∀{K:Wb} {H:Hp} {ds:LD} {a:List V} {us:List V5} {xs:List Str},zb ds=some xs->g7 K H ds a->qP a us->∃l:List (Str×Tok),us=strValues l/\l.map (·.1)=xs
 | _,_,[],a,us,xs,e,r,h=>by
  cases e;cases (show a=[] from r);cases h;exact⟨[],rfl,rfl⟩
 | K,H,d::ds,a,us,xs,e,r,h=>by
  obtain⟨x,i,e⟩:=d7 e;obtain⟨j,g,rfl⟩:=q8 e;obtain⟨v,b,rfl,r1,c⟩:=r;have f:=HS i r1;subst f;cases h with
  | cons h1 h2 =>
   obtain⟨t,rfl⟩:=h1;obtain⟨l,rfl,rfl⟩:=y9 g c h2;exact⟨(x,t)::l,rfl,rfl⟩
def Ir(I:L2.Inv X a c H s)(hz:(Builtin.Str.glued b (l.map (·.1))).length<=sizeLine)
  (q:Q (.str (Builtin.Str.glued b (l.map (·.1)))) H):(joinMade b l).post (EP X a c Q) s:=by
 have key:∀t,EP X a c Q (.str (Builtin.Str.glued b (l.map (·.1))) t) s:=λt=>⟨.str _,H,I,⟨t,rfl⟩,q⟩
 match l,hz,key with
 | [],hz,key=>exact⟨hz,.str _,H,I.tok _,⟨_,rfl⟩,q⟩
 | [p],hz,key=>exact key p.2
 | p1::p2::r,hz,key=>exact⟨hz,.str _,H,I.tok _,⟨_,rfl⟩,q⟩
def L8(x:Str)(i:Int)(c:Nat)(t u a:Tok)(h0:0<=i)(h1:i<=1000) :
  Gives (Builtin.«str.rjust» ⟨[.str x t,.int i u,.str ⟨#[c]⟩ a],[]⟩) (if i<=x.length then .val (.str x t) else .str (Builtin.Str.padded x (i.toNat - x.length) 0 c)):=by
 have d:Builtin.Str.asSsize (toString "str." ++ toString "rjust") (.int i u)=pure i:=asSsize_int _ _ _ (by rw[Wx (by omega),Wx (by omega)];rfl)
 have b:Builtin.Str.tooLong i.toNat=false:=Wx (by
  have z:1000<=sizeLine:=by decide
  omega)
 have e:Builtin.«str.rjust» ⟨[.str x t,.int i u,.str ⟨#[c]⟩ a],[]⟩=(Builtin.Str.asSsize (toString "str." ++ toString "rjust") (.int i u) >>= λn =>
   if n<=(x.length:Int) then (do rule (toString "str." ++ toString "rjust" ++ toString ".long-enough");ret (.str x t))
   else if Builtin.Str.tooLong n.toNat=true then unsupported (toString "str." ++ toString "rjust" ++ toString ":memory") else retStr (Builtin.Str.padded x (n.toNat - x.length) 0 c)):=rfl
 rw[e,d];show Gives (if i<=(x.length:Int) then _ else if Builtin.Str.tooLong i.toNat=true then _ else _) _;rw[b];split
 ·exact Gives.rule (Gives.of_eq rfl)
 ·exact Gives.of_eq rfl
end
section
variable{prog:Wr}{w:WC}{A:WM}{E:V5->V7->Prop}{s:V7}
def Jv:typeLookup (.type "list_reverseiterator") "__len__" = pure none:=by
 rw[typeLookup_type,builtinLookup_eq_fast];kernel_rfl -- list_reverseiterator
def Lq:typeLookup (.type "list_reverseiterator") "__length_hint__" = pure (some (.builtin "list_reverseiterator.__length_hint__")):=by
 rw[typeLookup_type,builtinLookup_eq_fast];kernel_rfl -- list_reverseiterator
abbrev HL(its:Array V5)(i:Nat)(v:V5):Prop:=its[its.size - 1 - i]?=some v
def FH(C:A.handled=none)(t:l≠j)(B:s.heap.IsRevIter j l ((c.size:Int) - 1))(z:s.heap.IsList l c)(hz:c.size<=sizeLine)
  (G:∀f m,Moved [j] (λa b=>b=a) s f->ItemsOf (HL c) m c.size->Q m.toList f):wpAny (model prog w) A (collect (.ref j)) Q E s:=by
 have W:=(Walks.listRev (prog:=prog) (w:=w) (A:=A.in1) C j l t c).toS;have n:(0<=c.size/\s.heap.IsRevIter j l ((c.size:Int) - 1 - ((0:Nat):Int))/\s.heap.IsList l c):=⟨W4 _,by rw[show(c.size:Int) - 1 - ((0:Nat):Int)=(c.size:Int) - 1 by omega];exact B,z⟩
 have hjs:j<s.heap.objs.size:=let ⟨o,r,_⟩:=B;Wp r;have x:l<s.heap.objs.size:=let ⟨o,r,_⟩:=z;Wp r
 have h:s.heap.objs.size ∉ [j,l]:=λv=>by
  rcases Wo.mp v with H | u
  ·exact Wz hjs (by rw[H];exact Xf _)
  ·exact Wz x (by rw[Wh.mp u];exact Xf _)
 unfold collect;refine V4 (wpAny_runValue (WR PySem.F.entry_proto_collect ?_));rw[Around.under_plainId PySem.F.plain_proto_collect _];show wpAny _ A.in1 (newList [] >>= λq=>again (.builtin "list.__iadd__" ⟨[q,.ref j],[]⟩)) _ _ s;refine V4 (WO (V8 ⟨plainId_quiet PySem.F.plain_list_iadd _,WR PySem.F.entry_list_iadd ?_⟩));rw[Around.under_plainId PySem.F.plain_list_iadd _];have st1:=W.frame 0 s (s.heap.push {cls:=.type "list",data:=.seq ([]:List V5).toArray}) s.toks n (Wl _) λb _ o e=>V6 _ e
 have g:(s.heap.push {cls:=.type "list",data:=.seq ([]:List V5).toArray}).get? s.heap.objs.size=some {cls:=.type "list",data:=.seq ([]:List V5).toArray}:=Wf _ rfl
 have p:Builtin.List.listSameRef (.ref s.heap.objs.size) (.ref j)=false:=by
  have:s.heap.objs.size≠j:=λe=>h (by rw[e];exact Ws)
  simp[Builtin.List.listSameRef,this]
 have d:=(show _ from st1).2.1.typeIs (s:={s with heap:=s.heap.push {cls:=.type "list",data:=.seq ([]:List V5).toArray} });show wpAny _ A.in1 (Builtin.List.listExtendWith (.ref s.heap.objs.size) (.ref j) (.ref s.heap.objs.size)) _ _ _;unfold Builtin.List.listExtendWith;refine V4 (wpAny_typeOf d ?_);rw[Wu (by rw[p];decide)];refine V4 (W.self 0 _ _ _ st1 (V4 (wpAny_holding ?_)));unfold Builtin.List.listLengthHint;refine V4 (wpAny_specialOf d Jv ?_);show wpAny _ A.in1 (specialOf (Value.ref j) (oS "__length_hint__") >>= _) _ _ _;refine V4 (wpAny_specialOf d Lq ?_);generalize K_:("list_reverseiterator.__length_hint__" : String)=nm
 wp_delta
 rw[show splitId nm=some ("list_reverseiterator","__length_hint__") from by subst K_;decide +kernel];subst K_;refine V4 (wpAny_isInstance (b:=true) d (by rw[isSubtype_type];kernel_rfl) ?_);refine V8 ?_;rw[Wu (by decide)];refine V8 ⟨plainId_quiet PySem.F.plain_extend_loop _,codeAny_extend_loopS W hz _ h _ c.size 0 _ _ _ rfl (W4 _) st1 g (ItemsOf.nil (HL c)) λf k c' v y i=>?_⟩;show wpAny _ A (load s.heap.objs.size >>= _) _ _ f;exact V4 (wpAny_load y (V8 (G f k (Moved.drop_new (o:={cls:=.type "list",data:=.seq ([]:List V5).toArray}) (tk:=s.toks) v (Wl _)) i)))
def Jt(h:ItemsOf (HL (strValues lv).toArray) a (strValues lv).toArray.size):a.toList=strValues lv.reverse:=by
 have c:(strValues lv).toArray.size=lv.length:=by simp[strValues]
 have g:strValues lv.reverse=(strValues lv).reverse:=by simp[strValues]
 rw[g];have f:a.size=lv.length:=h.1.trans c;have d:(strValues lv).length=lv.length:=by simp[strValues]
 refine List.ext_getElem (by rw[List.length_reverse,WL,f,d]) λi h1 m=>?_
 have k:i<a.size:=by simpa using h1
 have z:=h.2 i a[i] (Xa k);unfold HL at z;rw[c] at z;have l:i<lv.length:=by omega
 have b:(strValues lv)[lv.length - 1 - i]?=some a[i]:=by simpa using z
 rw[List.getElem_reverse];have j:lv.length - 1 - i<(strValues lv).length:=by omega
 rw[List.getElem?_eq_getElem j] at b;have e:=Wq b;rw[Array.getElem_toList];simp only[d];exact e.symm
def Gy(c:Str)(l:List (Str×Tok))(h:Builtin.Str.tooLong ((l.map (·.1)).toArray.foldl (·+·.length+c.length) 0)=false):Gives (joinTail c (strValues l)) (joinMade c l):=by
 match l,h with
 | [],h=>exact gives_joinTail c [] h
 | [a],h=>exact gives_joinTail c [a] h
 | a::b::r,h=>exact gives_joinTail c (a::b::r) h
def K7(n:A.handled=none)(g:l≠j)(h:s.heap.IsRevIter j l ((lv.length:Int) - 1))(m:s.heap.IsList l (strValues lv).toArray)(hz:lv.length<=sizeLine)
  (o:Builtin.Str.tooLong ((lv.reverse.map (·.1)).toArray.foldl (·+·.length+c.length) 0)=false) (p:∀e,Moved [j] (λa b=>b=a) s e->(joinMade c lv.reverse).post Q e) :
  wpAny (model prog w) A (call (.builtin "str.join") [.str c t,.ref j]) Q E s:=by
 have i:(strValues lv).toArray.size=lv.length:=by simp[strValues]
 refine wpAny_call (codeAny_call_builtin PySem.F.slot_str_join.plain PySem.F.entry_str_join (PySem.F.slot_str_join.check _ _ _ _ _ _ _ _ (typeIs_str _ _ _) (PySem.F.args_str_join_2 _ _) ?_));rw[join_tree_other];refine V4 (wpAny_typeOf h.typeIs ?_);show wpAny _ A.in1 ((pyIter (.ref j)).tryCatch _ >>= λit=>collect it >>= λd=>joinTail c d) _ _ s;refine V4 (wpAny_tryCatch (wpAny_pyIter_revIter h (V4 (FH (A:=A.in1) n g (by rw[i];exact h) m (by rw[i];exact hz) λe q k f=>?_))));rw[Jt f];exact Gy c lv.reverse o prog w A (wants Q E) e (p e k)
end
section
variable{X:Cx}
def L6(e:Aw [x,y]=some r):∃a b,x=.str a/\y=.lst b:=by
 obtain⟨a,d,e⟩:=d7 e;obtain⟨b,c,_⟩:=d7 e;exact⟨a,b,J3 d,DK c⟩
def lE (hc:X.calm=true) (E:X.mg "reversed" = none) (ha:SE X a f) (he:SE X e g) (hg:Gl X "reversed":=by rfl) (W:noStar e=true:=by rfl)
    (k:attributeBase a "join" X.env (eval a X.env)=eval a X.env:=by rfl)
    (B:((backTo J (starEach [.Call (.Name "reversed" O) [e] [] P] X.env)).all (λx=>!x.1)&&(backToKw J (keywordEach [] X.env)).all (λx=>x.1.isSome)
      && decide ([Expr.Call (.Name "reversed" O) [e] [] P].length+([]:List Keyword).length+(if ([]:List Keyword).isEmpty then 0 else 1)<30))=true:=by rfl)
    (j:(ap.endLine==J.line)=true:=by rfl) :
    SE X (.Call (.Attribute a "join" ap) [.Call (.Name "reversed" O) [e] [] P] [] J) (d3 Aw (b8 f (b8 g d4))):=by
  intro h s M H Q I hw;obtain⟨ρ,d,er,m,q⟩:=hw;obtain⟨dd,C,m⟩:=d7 m;obtain⟨x,e2,C⟩:=d7 C;obtain⟨ds,e3,C⟩:=q8 C;subst C;obtain⟨y,e4,e3⟩:=d7 e3;cases e3;obtain⟨r,es,rfl,rfl⟩:=L6 m;obtain⟨xs,e5,m⟩:=d7 m;obtain⟨wd,G,rfl⟩:=q8 m;unfold HB at G;split at G
  · rename_i hz
    cases G;have i:=ad [] X.env W;refine wpAny_Call_method_late k B j rfl (rg (ha h s M H (λv p=>g6 H p/\Rep X.K p (.str r) v) I ⟨ρ,_,er,e2,λv p s1 r1=>⟨s1,r1⟩⟩) λv s1 ⟨vx,p,L,r1,w,rp⟩=>?_);cases (show vx=_ from rp);obtain⟨t,rfl⟩:=r1;obtain⟨h1,h2⟩:=F7 (T:="str") (x:=.str r) L ⟨t,rfl⟩ rfl;refine⟨"str","str.join",PySem.F.plainAttrs_str,PySem.F.slot_str_join,PySem.F.type_str_join,h1,h2,?_⟩;refine Calls.callWith_builtin rfl (Calls.evalArgs_plain (Calls.spliced_cons ?_));refine Xk (aE L hg E (u:=.type "reversed") (by kernel_rfl) ?_);refine callWith_type1 ?_ i rfl;rw[i];refine Calls.spliced_cons (rg (he h s1 M p (λv n=>g6 p n/\Rep X.K n (.lst es) v) L ⟨ρ,_,er.mono w,e4,λv n s2 r2=>⟨s2,r2⟩⟩) λu s2 ⟨vu,n,I2,ru,N,rl⟩=>Calls.spliced_nil ?_);obtain⟨b,vs,rfl,hq,ts⟩:=rl;cases (show u=_ from ru);obtain⟨S,rr,U,A⟩:=I2.list (uI.of hq);obtain⟨lv,hu,hx⟩:=y9 e5 ts.reverse (ik rr)
    have hi:S=strValues lv.reverse:=by
      have z:=congrArg List.reverse hu;rw[List.reverse_reverse] at z;rw[z];simp[strValues]
    subst hi;subst hx;have Z:b<s2.heap.objs.size:=let ⟨o,l,_⟩:=U.isList;Wp l;have hn:(strValues lv.reverse).toArray.size=lv.reverse.length:=by simp[strValues]
    have Y:lv.reverse.length<=sizeLine:=by rw[<- hn,Wy,<- rr.length];exact A
    refine call_reversed_list U.isList (Calls.spliced_nil ?_);refine K7 (L.ok.hd hc) (lv:=lv.reverse) (WA Z) ⟨_,Wf _ rfl,rfl,by rw[hn];rfl⟩ (U.isList.at λo l=>V6 _ l) Y ?_ λs' E=>?_
    · rw[List.reverse_reverse]
      exact Wx (Nat.not_lt.mpr hz.1)
    · rw[List.reverse_reverse]
      have I3:L2.Inv X h M n s':=by
        rw[E.eq_with];exact I2.kept λc o l=>E.heap c o (λhc=>Wz (Wp l) (by rw[Wh.mp hc];exact Xf _)) (V6 _ l)
      exact Ir I3 hz.2 (q _ n (w.trans N) rfl)
  · cases G
def lq(k:PassesOwn (model X.prog X.w) X.A X.env X.xe)(l:ST X c f):S1 X (.While c body [] pos) (Jz f):=by
 have n:PSs X body (λ_ _ _=>False):=λi s g H D I h=>h.elim
 refine(fJ k l n).imp λE g H d=>?_
 obtain⟨ρ,u,o,j,e,q⟩:=d;obtain⟨b,p,e⟩:=d7 e;cases b with
 | true=>cases e
 | false =>
  cases e;refine⟨λm a t=>a=g/\t=H,⟨0,rfl,rfl⟩,?_⟩;rintro m _ _ ⟨rfl,rfl⟩;exact⟨ρ,false,j.1,p,λr s1=>(Wu (show ¬ (false=true) from We)).mpr (q r s1 _ (j.mono s1))⟩
def Sa(e:RL (x::l)=some r):∃a i b,x=.str a/\l=[.int i,.str b]:=by
 obtain⟨a,f,e⟩:=d7 e;obtain⟨y,z,rfl,e⟩:=Ac e;obtain⟨i,d,e⟩:=d7 e;obtain⟨b,c,_⟩:=d7 e;cases BX d;cases J3 c;exact⟨a,_,_,J3 f,rfl⟩
def qE:TL X "str.rjust" RL:=by
 intro f s B H x E v us Q I p r h;obtain⟨K,ds,d,r1,a,e,q⟩:=h;obtain⟨z,i,g,rfl,rfl⟩:=Sa e
 replace e:(if 0<=i/\i<=1000/\g.length=1 then some (D.str (Pg z i.toNat (g.cps.getD 0 0))) else none)=some d:=e
 split at e
 ·rename_i hz
  obtain⟨h0,h1,y⟩:=hz;cases e;cases (show x=_ from r1);obtain⟨t,rfl⟩:=p;obtain⟨u,G,rfl,k1,a⟩:=a;obtain⟨m,w,rfl,k2,a⟩:=a;cases (show w=[] from a);cases (show u=_ from k1);cases (show m=_ from k2);obtain⟨w1,w2,rfl,⟨o,rfl⟩,⟨n,rfl⟩⟩:=r.two
  obtain⟨c,A⟩:∃c,g=⟨#[c]⟩:=by
   obtain⟨⟨l⟩⟩:=g
   match l,y with
   | [c],_=>exact⟨c,rfl⟩
  subst A;have J:(i.toNat:Int)=i:=by omega
  refine call_gives PySem.F.slot_str_rjust (typeIs_str s z t) PySem.F.entry_str_rjust (PySem.F.args_str_rjust_3 _ _ _) (L8 z i c t o n h0 h1) ?_;have b:=q (.str (Pg z i.toNat c)) H (g6.refl H) rfl;unfold Pg at b;by_cases j:i.toNat<=z.length
  ·rw[Wc j] at b
   rw[Wc (by omega)];exact⟨.str z,H,I,⟨t,rfl⟩,b⟩
  ·rw[Wu j] at b
   rw[Wu (by omega)];refine⟨?_,.str _,H,I.tok _,⟨_,rfl⟩,b⟩;have C:1000<=sizeLine:=by decide
   have k:(Builtin.Str.padded z (i.toNat - z.length) 0 c).length=i.toNat:=by
    show(Array.replicate _ _++z.cps++Array.replicate _ _).size=_;simp;have:z.cps.size=z.length:=rfl;omega
   rw[k];omega
 ·cases e
def Ql(h:RL (x::ds)=some d):∃z,x=.str z:=by
 cases x with
 | str z=>exact⟨z,rfl⟩
 | _=>cases h
def qg(j:SE X a f)(k:SA X (e::es) F)
  (c:attributeBase a "rjust" X.env (eval a X.env)=eval a X.env:=by rfl)
  (d:((backTo g (starEach (e::es) X.env)).all (λx=>!x.1)&&(backToKw g (keywordEach [] X.env)).all (λx=>x.1.isSome)&&decide ((e::es).length+([]:List Keyword).length+(if ([]:List Keyword).isEmpty then 0 else 1)<30))=true:=by rfl)
  (b:(i.endLine==g.line)=true:=by rfl):SE X (.Call (.Attribute a "rjust" i) (e::es) [] g) (d3 RL (b8 f F)):=
 qI PySem.F.slot_str_rjust PySem.F.type_str_rjust qE (λ_ _ _ h=>Ql h) j k c d b
end
section
variable{X:Cx}
def yN:fillsNumberSlot (.type "tuple") "mul" = pure false:=
 PySem.fillsNumberSlot_seq (id:="tuple.__mul__") (r:=some (.builtin "tuple.__rmul__")) PySem.F.slot_tuple_mul.lookup (by decide +kernel) PySem.F.slot_tuple_rmul.lookup (by decide +kernel)
def Dg:seqRepeat? (.type "tuple")=pure (some (.builtin "tuple.__mul__")):=by
 unfold seqRepeat?;rw[PySem.seqSlot_of (T:="tuple") (name:="__mul__") (id:="tuple.__mul__") PySem.F.slot_tuple_mul.lookup (by decide +kernel),PySem.seqSlot_of (T:="tuple") (name:="__rmul__") (id:="tuple.__rmul__") PySem.F.slot_tuple_rmul.lookup (by decide +kernel)];rfl
def AI(a:Int)(t:Tok)(l:V_)(b:Array V5)(n:Nat)(dd:V3 V_)(c:Array (V3 V5)) :
  Meets (Builtin.«int.__rmul__» ⟨[.int a t,.ref l],[]⟩) (λ_ R s=>s.heap.get? l=some {cls:=.type "tuple",dict:=dd,data:=.seq b n,slots:=c}/\R (.ok (.ret Value.notImplemented)) s):=
 .of_wp λprog w A R s h=>by obtain⟨e,g,d,tk,os⟩:=s;obtain⟨f,h⟩:=h;wp_walk;exact⟨_,rfl,h⟩
def Vh(h:b=false):decide (b=true)=false:=by subst h;rfl
def AY(l:V_)(a:Array V5)(n:Nat)(dd:V3 V_)(c:Array (V3 V5))(k:Int)(u:Tok)(h1:(decide (k < -(2 ^ 63))||decide (k ≥ 2 ^ 63))=false)(f:(a.isEmpty||k==1)=true) :
  Meets (Builtin.«tuple.__mul__» ⟨[.ref l,.int k u],[]⟩) (λ_ R s=>s.heap.get? l=some {cls:=.type "tuple",dict:=dd,data:=.seq a n,slots:=c}/\R (.ok (.ret (.ref l))) s):=
 .of_wp λprog w A R s h=>by
  obtain⟨e,g,d,tk,os⟩:=s;obtain⟨b,h⟩:=h;have j:=AutoSeq1.idx_int;have i:=AutoSeq1.sub_tuple_tuple
  wp_walk using wpAny_loadPart' b
  refine wpAny_ite_false (Vh h1) ?_
  wp_walk using wpAny_loadPart' b
  exact⟨_,rfl,h⟩
def BL(l:V_)(a:Array V5)(n:Nat)(dd:V3 V_)(f:Array (V3 V5))(k:Int)(u:Tok)(h1:(decide (k < -(2 ^ 63))||decide (k ≥ 2 ^ 63))=false)(q:(a.isEmpty||k==1)=false)
  (p:(decide (k<=0)||a.isEmpty)=false) (i:decide ((a.size:Int)*k > (2 ^ 63 - 1) / 8)=false) (o:Builtin.Tuple.tupleTooMany ((a.size:Int)*k)=false) (m:(List.foldl (λc b=>c++b) #[] (List.replicate k.toNat a)).size<=sizeLine) :
  Meets (Builtin.«tuple.__mul__» ⟨[.ref l,.int k u],[]⟩) (λ_ R s=>s.heap.get? l=some {cls:=.type "tuple",dict:=dd,data:=.seq a n,slots:=f} /\
   R (.ok (.ret (.ref s.heap.objs.size))) {s with heap:=s.heap.push {cls:=Value.type "tuple",data:=Data.seq (List.foldl (λc b=>c++b) #[] (List.replicate k.toNat a))},toks:=s.toks}):=
 .of_wp λprog w A R s h=>by
  obtain⟨j,g,d,tk,os⟩:=s;obtain⟨e,h⟩:=h;have t:=AutoSeq1.idx_int;have r:=AutoSeq1.sub_tuple_tuple
  wp_walk using wpAny_loadPart' e
  refine wpAny_ite_false (Vh h1) ?_
  wp_walk using wpAny_loadPart' e
  refine wpAny_ite_false i ?_
  wp_walk using wpAny_loadPart' e
  exact⟨_,rfl,h⟩
def N7(e:K0 x y=some r):∃a i,x=.tup a/\y=.int i:=by
 obtain⟨a,d,e⟩:=d7 e;obtain⟨b,c,_⟩:=d7 e;exact⟨a,b,S5 d,BX c⟩
def mS:Pv X (binaryOp .Mult) K0:=by
 intro G s σ H x y v u Q I O N h;obtain⟨dx,dy,d,r1,P,e,q⟩:=h;obtain⟨xs,k,rfl,rfl⟩:=N7 e;have C:(if xs.length*k.toNat<=sizeLine/\0<k/\k<2 ^ 63 then some (D.tup (List.replicate k.toNat xs).flatten) else none)=some d:=e;split at C
 ·rename_i hz
  obtain⟨hz,k1,k2⟩:=hz;cases C;obtain⟨a,w,rfl,J,t⟩:=r1;cases (show y=_ from P);cases O;obtain⟨tk,rfl⟩:=N;obtain⟨c,E,p,hsz⟩:=I.tuple J;obtain⟨⟨cls,dd,data,A⟩,j,f,n,hd⟩:=id p;simp only at f hd;subst f hd;have g:xs.length=c.length:=t.length.trans E.length
  have b1:(decide (k < -(2 ^ 63))||decide (k ≥ 2 ^ 63))=false:=by
   rw[Wx (by omega),Wx (by omega)];rfl
  have i:List.foldl (λL K=>L++K) #[] (List.replicate k.toNat c.toArray)=(List.replicate k.toNat c).flatten.toArray:=by
   have:=foldl_rep c k.toNat [];rw[Xr] at this;exact this
  have B:(List.replicate k.toNat c).flatten.length<=sizeLine:=by rw[jJ,<- g,Nat.mul_comm];exact hz
  refine wpAny_binaryOp_repeat_ref (T:="tuple") (U:="int") (by decide) ⟨_,j,rfl⟩ (λM=>typeIs_int M k tk) yN F.fills_int_mul F.slot_int_rmul Dg F.slot_int_index.lookup
   (call_meets F.slot_int_rmul (typeIs_int s k tk) F.entry_int_rmul (F.args_int_rmul_2 _ _) (AI k tk a c.toArray n dd A) ⟨j,rfl,⟨_,j,rfl⟩,?_⟩)
  by_cases f:c=[]\/k=1
  ·have b2:(c.toArray.isEmpty||k==1)=true:=by
    rcases f with f | f
    ·subst f;rfl
    ·subst f;simp
   refine call_meets PySem.F.slot_tuple_mul ⟨_,j,rfl⟩ PySem.F.entry_tuple_mul (PySem.F.args_tuple_mul_2 _ _) (AY a c.toArray n dd A k tk b1 b2) ⟨j,?_⟩;refine⟨.ref a,H,I,rfl,q _ H (g6.refl H) ⟨a,w,rfl,J,?_⟩⟩;rcases f with f | f
   ·subst f
    have z:xs=[]:=List.length_eq_zero_iff.mp g;subst z;have m:(List.replicate k.toNat ([]:LD)).flatten=[]:=by simp
    rw[m];exact t
   ·subst f
    have m:(List.replicate (1:Int).toNat xs).flatten=xs:=by simp
    rw[m];exact t
  ·have b2:(c.toArray.isEmpty||k==1)=false:=by
    have a1:c ≠ []:=λz=>f (.inl z)
    have a2:k≠1:=λz=>f (.inr z)
    cases c with
    | nil=>exact Wz rfl a1
    | cons x r=>simp[a2]
   have W:¬ k<=0:=by omega
   have b3:(decide (k<=0)||c.toArray.isEmpty)=false:=by
    have a1:c ≠ []:=λz=>f (.inl z)
    rw[Wx W];cases c with
    | nil=>exact Wz rfl a1
    | cons x r=>rfl
   have l:((c.toArray.size:Nat):Int)*k=((c.length*k.toNat:Nat):Int):=by
    rw[Wy,Int.natCast_mul,Int.toNat_of_nonneg (by omega)]
   have S:c.length*k.toNat<=16777216:=by rw[<- g];exact hz
   have b4:decide (((c.toArray.size:Nat):Int)*k > (2 ^ 63 - 1) / 8)=false:=Wx (by rw[l];omega)
   have Z:Builtin.Tuple.tupleTooMany (((c.toArray.size:Nat):Int)*k)=false:=by
    unfold Builtin.Tuple.tupleTooMany;rw[l];exact Wx (by rw[sizeLine_eq];omega)
   refine call_meets PySem.F.slot_tuple_mul ⟨_,j,rfl⟩ PySem.F.entry_tuple_mul (PySem.F.args_tuple_mul_2 _ _) (BL a c.toArray n dd A k tk b1 b2 b3 b4 Z (by rw[i,Wy];exact B)) ⟨j,?_⟩;rw[i];have Y:=I.hok.fresh (Wl s.heap.objs.size);have s2:=ar Y (.tup (List.replicate k.toNat w).flatten);refine⟨.ref s.heap.objs.size,_,I.laid (t':=s.toks) (o:=.tup (List.replicate k.toNat w).flatten) (λb ob q=>V6 _ q) (Wl _) ?_,rfl,q _ _ s2 ⟨_,_,rfl,tS.of aa,(t.rep k.toNat).mono s2⟩⟩;exact⟨by rw[jJ,<- t.length,Nat.mul_comm];exact hz,_,E.rep k.toNat,uf.new _ _⟩
 ·cases C
end
def Kd{a b c:Int}(k : -(2 ^ 60)<=a)(i:a<2 ^ 60)(j : -(2 ^ 60)<=b)(g:b<2 ^ 60)(f:0<c)(e:c<1073741824):Builtin.Range.small a b c=true:=by
 have hd:0<=(b - a - 1) / c\/b - a - 1<0:=by
  by_cases h:b - a - 1<0
  ·exact .inr h
  ·exact .inl (Int.ediv_nonneg (by omega) (by omega))
 have d:a<b->(b - a - 1) / c<=b - a - 1:=λh=>Int.ediv_le_self _ (by omega)
 unfold Builtin.Range.small Builtin.Range.rangeSize;simp only[Builtin.Range.rangeFitsLong,Wj,Bool.or_eq_true,decide_eq_true_eq,Xt,gt_iff_lt,f,if_true];split<;>omega
section
variable{X:Cx}
def CK{a b c:Int}(d:0<c):((sr a b c:Nat):Int)=Builtin.Range.rangeSize a b c:=by
 unfold sr Builtin.Range.rangeSize;rw[Wc (show c > 0 from d)];split
 ·rename_i h
  have:0<=(b - a - 1) / c:=Int.ediv_nonneg (by omega) (by omega);omega
 ·rfl
end
section
variable{X:Cx}{pins:List (V_×Obj)}{σ:L2.St}{H:Hp}{s:V7}{k:Nat}{y:Str}
def K_(X:Cx)(k:Nat)(y:Str):Cx:={X with N:=X.N.set k y}
def Bg{a:Type}{l:List (V3 a)}{i k:Nat}{v:a}(h:(l.set k none)[i]?=some (some v)):i≠k/\l[i]?=some (some v):=by
 by_cases e:i=k
 ·subst e
  rw[List.getElem?_set_self'] at h;cases z:l[i]? with
  | none=>rw[z] at h;cases h
  | some w=>rw[z] at h;cases h
 ·rw[W7 (Ne.symm e)] at h
  exact⟨e,h⟩
def Nc(I:L2.Inv X pins σ H s):L2.Inv (K_ X k y) pins (σ.set k none) H s where
 ok:=⟨I.ok.mod,I.ok.kind,I.ok.glob,I.ok.blt,I.ok.above,I.ok.inj,I.ok.has,I.ok.cab,I.ok.hd,I.ok.frames,I.ok.stk,I.ok.exf,I.ok.bs,I.ok.bsz,I.ok.noex,I.ok.exfs,I.ok.funs,I.ok.frf⟩
 os:=I.os
 bare:=I.bare
 base:=I.base
 loc:=let ⟨m,b,c⟩:=I.loc;⟨m,b,λi x v g f e=>by
  obtain⟨n,d⟩:=Bg f;have a:(X.N.set k y)[i]?=some x:=g;rw[W7 (Ne.symm n)] at a;exact c i x v a d e⟩
 cell:=I.cell
 free:=I.free
 freeC:=I.freeC
 pin:=I.pin
 hok:=I.hok
 len:=by show(σ.set k none).length=(X.N.set k y).length;rw[Xc,Xc];exact I.len
def wH(I:L2.Inv (K_ X k y) pins σ H s):L2.Inv X pins (σ.set k none) H s where
 ok:=⟨I.ok.mod,I.ok.kind,I.ok.glob,I.ok.blt,I.ok.above,I.ok.inj,I.ok.has,I.ok.cab,I.ok.hd,I.ok.frames,I.ok.stk,I.ok.exf,I.ok.bs,I.ok.bsz,I.ok.noex,I.ok.exfs,I.ok.funs,I.ok.frf⟩
 os:=I.os
 bare:=I.bare
 base:=I.base
 loc:=let ⟨m,a,b⟩:=I.loc;⟨m,a,λi x v f e d=>by
  obtain⟨n,c⟩:=Bg e;exact b i x v (by show(X.N.set k y)[i]?=some x;rw[W7 (Ne.symm n)];exact f) c d⟩
 cell:=I.cell
 free:=I.free
 freeC:=I.freeC
 pin:=I.pin
 hok:=I.hok
 len:=by have z:σ.length=(X.N.set k y).length:=I.len;rw[Xc] at z;rw[Xc];exact z
def di{K:Wb}(e:r_ K H ρ a σ)(b:k<ρ.length):r_ K H (ρ.set k none) a (σ.set k none):=by
 refine⟨⟨by rw[Xc,Xc];exact e.1.1,λi d h=>?_⟩,?_⟩
 ·obtain⟨n,g⟩:=Bg h
  obtain⟨v,f,c⟩:=e.1.2 i d g;exact⟨v,by rw[W7 (Ne.symm n)];exact f,c⟩
 ·rw[Xc,List.drop_set_of_lt b]
  exact e.2
def nU{st:Xi}{f:R->V3 Out}(k:Nat)(y:Str)(h:S1 (K_ X k y) st f):S1 X st (Dc k f):=by
 intro pins s σ H E I t;obtain⟨ρ,p,o,B,e,q⟩:=t;unfold Dc at e;split at e
 ·rename_i x
  obtain⟨n,C,c⟩:=d7 e;have z:=h pins s (σ.set k none) H ⟨λa b=>E.nx (a.set k none) b,E.rt,λa b=>E.bk (a.set k none) b,λa b=>E.ct (a.set k none) b⟩ (Nc I) ⟨ρ.set k none,p,n,di B x,C,λb s1=>?_⟩
  ·refine rg z λA F w=>?_
   cases A with
   | next=>obtain⟨a,b,l,j⟩:=w;exact⟨_,b,wH l,j⟩
   | brk=>obtain⟨a,b,l,j⟩:=w;exact⟨_,b,wH l,j⟩
   | cont=>obtain⟨a,b,l,j⟩:=w;exact⟨_,b,wH l,j⟩
   | ret u=>obtain⟨v,a,b,l,r,j⟩:=w;exact⟨v,_,b,wH l,r,j⟩
  ·have m:=q b s1
   cases n with
   | nx ρ1 =>
    simp only[IG] at c;split at c
    ·rename_i g;cases c;exact λa i=>m _ (di i g)
    ·cases c
   | bk ρ1 =>
    simp only[IG] at c;split at c
    ·rename_i g;cases c;exact λa i=>m _ (di i g)
    ·cases c
   | ct ρ1 =>
    simp only[IG] at c;split at c
    ·rename_i g;cases c;exact λa i=>m _ (di i g)
    ·cases c
   | rt d=>cases c;exact m
 ·cases e
end
end HW
namespace HW
open PySem
structure Ap (z TI TO i1 i2:V_):Prop where
 a1:TI≠z
 a2:TO≠z
 a3:i1≠z
 a4:i2≠z
 a5:TI≠TO
 a6:TI≠i1
 a7:TI≠i2
 a8:TO≠i1
 a9:TO≠i2
 b1:i1≠i2
section
variable{prog:Wr}{w:WC}{A:WM}{E:V5->V7->Prop}
structure Nx (prog:Wr) (w:WC) (A:WM) (mk:WK->Nat->V7) (Good:WK->Nat->Prop) (it:V_) (st st':WK->Prop) (P:V5->Prop):Prop where
 stay:∀h h',st h->(∀o,h.get? it=some o->h'.get? it=some o)->st h'
 stay':∀h h',st' h->(∀o,h.get? it=some o->h'.get? it=some o)->st' h'
 run:∀h tk (Q:V5->V7->Prop) (E:V5->V7->Prop),Good h tk->st h->(∀u h' tk',P u->st' h'->Heap.SameBut it h h'->Q u (mk h' tk')) ->
  wpAny (model prog w) A (Builtin.SmallTypes.nextOf (.ref it)) Q E (mk h tk)
structure Ne (prog:Wr) (w:WC) (A:WM) (mk:WK->Nat->V7) (Good:WK->Nat->Prop) (it:V_) (st:WK->Prop):Prop where
 stay:∀h h',st h->(∀o,h.get? it=some o->h'.get? it=some o)->st h'
 run:∀h tk (Q:V5->V7->Prop) (E:V5->V7->Prop),Good h tk->st h->(∀h' e,Heap.ExtBut it h h'->(∃o,h'.get? e=some o/\o.cls=.type "StopIteration")->E (.ref e) (mk h' tk)) ->
  wpAny (model prog w) A (Builtin.SmallTypes.nextOf (.ref it)) Q E (mk h tk)
def uH(s:V7)(h:WK)(tk:Nat):V7:={s with heap:=h,toks:=tk}
def Cl(Good:WK->Nat->Prop)(cs:List V_):Prop:=∀c∈cs,∀h tk h' a,Good h tk->(∀b o,b≠c->h.get? b=some o->h'.get? b=some o)->Good h' a
variable{Good:WK->Nat->Prop}{s:V7}{z TI TO i1 i2:V_}{a b:V5}{st1 st1' st2 st2':WK->Prop}{P1 P2:V5->Prop}
def lO {Q:V5->V7->Prop} (D:Ap z TI TO i1 i2) (hz:IsZip s.heap z TI TO .none) (hI:IsPair s.heap TI (.ref i1) (.ref i2)) (hO:IsPair s.heap TO a b)
    (g0:Good s.heap s.toks) (cl:Cl Good [z,TO,i1,i2]) (n1:Nx prog w A (uH s) Good i1 st1 st1' P1) (G:Nx prog w A (uH s) Good i2 st2 st2' P2) (X:st1 s.heap) (W:st2 s.heap)
    (hQ:∀d tk g h j,Good d tk->P1 g->P2 h->IsZip d z TI TO .ellipsis->IsPair d TI (.ref i1) (.ref i2)->IsPair d TO g h->st1' d->st2' d->IsZip j z TI TO (rawInt d.objs.size) ->
      (∀c o,c≠z->(d.push {cls:=.type "tuple",data:=.seq #[g,h]}).get? c=some o->j.get? c=some o)->Q (.ref d.objs.size) (uH s j tk)) :
    wpAny (model prog w) A (Builtin.«zip.__next__» ⟨[.ref z],[]⟩) (λfin U=>∃v,fin=.done (.ret v)/\Q v U) E s:=by
  show wpAny _ _ (field (.ref z) 2 >>= _) _ _ _;refine V4 (wpAny_field hz rfl (x:=.bool false) rfl ?_);show wpAny _ _ (field (.ref z) 3 >>= _) _ _ _;refine V4 (wpAny_field hz rfl (x:=.ref TI) rfl ?_);refine V4 (wpAny_seqItems hI rfl ?_);show wpAny _ _ (Builtin.SmallTypes.ownedTupleIsFree (.ref z) >>= _) _ _ _;refine V4 ?_;unfold Builtin.SmallTypes.ownedTupleIsFree;refine V4 (wpAny_field hz rfl (x:=.none) rfl (V8 ?_));simp only[if_true];refine V4 (wpAny_rule ?_);refine V4 (wpAny_field hz rfl (x:=.ref TO) rfl ?_);refine V4 (wpAny_setField_rec hz (by simp) λh1 i s1=>?_)
  replace i:IsZip h1 z TI TO .ellipsis:=i
  have y:∀b o,b≠z->s.heap.get? b=some o->h1.get? b=some o:=s1.extBut;have L:Good h1 s.toks:=cl z (by simp) _ _ _ _ g0 y;refine V4 ?_;simp only[List.zipIdx_cons,List.zipIdx_nil,List.forIn_cons,List.forIn_nil];refine V4 (V4 (wpAny_onRaise ?_));show wpAny _ _ (Builtin.SmallTypes.nextOf (.ref i1) >>= _) _ _ _;refine V4 (n1.run h1 s.toks _ _ L (n1.stay _ _ X λo=>y _ o D.a3) λg m f Z S s2=>V8 ?_);have u:∀b o,b≠i1->h1.get? b=some o->m.get? b=some o:=s2.extBut;have g2:Good m f:=cl i1 (by simp) _ _ _ _ L u;have N:IsPair m TO a b:=u _ _ D.a8 (y _ _ D.a2 hO);refine V4 (wpAny_seqItems (s:=uH s m f) N rfl ?_);refine V4 (wpAny_updateSeq_pair (s:=uH s m f) N λl H s3=>?_)
  replace H:IsPair l TO g b:=H
  have t:∀b o,b≠TO->m.get? b=some o->l.get? b=some o:=s3.extBut;have K:Good l f:=cl TO (by simp) _ _ _ _ g2 t;refine V4 (wpAny_letGo (V8 ?_));refine V4 (V4 (wpAny_onRaise ?_));show wpAny _ _ (Builtin.SmallTypes.nextOf (.ref i2) >>= _) _ _ (uH s l f);refine V4 (G.run l f _ _ K (G.stay _ _ W λo q=>t _ o D.a9.symm (u _ o D.b1.symm (y _ o D.a4 q))) λh k e Y P s4=>V8 ?_);have r:∀b o,b≠i2->l.get? b=some o->k.get? b=some o:=s4.extBut;have g4:Good k e:=cl i2 (by simp) _ _ _ _ K r;have M:IsPair k TO g b:=r _ _ D.a9 H;refine V4 (wpAny_seqItems (s:=uH s k e) M rfl ?_);refine V4 (wpAny_updateSeq_pair (s:=uH s k e) M λd B s5=>?_)
  replace B:IsPair d TO g h:=B
  have p:∀b o,b≠TO->k.get? b=some o->d.get? b=some o:=s5.extBut;have g5:Good d e:=cl TO (by simp) _ _ _ _ g4 p;refine V4 (wpAny_letGo (V8 (V8 ?_)));refine V4 (wpAny_seqItems (s:=uH s d e) B rfl ?_);refine V4 (wpAny_newTuple (s:=uH s d e) ?_);have I:IsZip d z TI TO .ellipsis:=p _ _ D.a2.symm (r _ _ D.a4.symm (t _ _ D.a2.symm (u _ _ D.a3.symm i)));have I5:IsPair d TI (.ref i1) (.ref i2):=p _ _ D.a5 (r _ _ D.a7 (t _ _ D.a5 (u _ _ D.a6 (y _ _ D.a1 hI))));show wpAny _ _ (Builtin.SmallTypes.ownedTupleHandOut (.ref z) (.ref d.objs.size) >>= _) _ _ _;refine V4 ?_;unfold Builtin.SmallTypes.ownedTupleHandOut;have O:IsZip (d.push {cls:=.type "tuple",data:=.seq #[g,h]}) z TI TO .ellipsis:=V6 _ I;refine V4 (wpAny_setField_rec (s:=uH s (d.push {cls:=.type "tuple",data:=.seq #[g,h]}) e) O (by simp) λJ F T=>?_)
  replace F:IsZip J z TI TO (rawInt d.objs.size):=F
  refine wpAny_setField_rec (s:=uH s J e) F (by simp) λj C s8=>?_
  replace C:IsZip j z TI TO (rawInt d.objs.size):=C
  exact V8 ⟨_,rfl,hQ d e g h j g5 Z Y I I5 B (n1.stay' _ _ S λo q=>p _ o D.a8.symm (r _ o D.b1 (t _ o D.a8.symm q))) (G.stay' _ _ P λo q=>p _ o D.a9.symm q) C
    λc o n q=>s8.extBut _ _ n (T.extBut _ _ n q)⟩
def ji {Q:V5->V7->Prop} (D:Ap z TI TO i1 i2) (hz:IsZip s.heap z TI TO .none) (hI:IsPair s.heap TI (.ref i1) (.ref i2)) (hO:IsPair s.heap TO a b)
    (m:Good s.heap s.toks) (cl:Cl Good [z,TO,i1,i2]) (n1:Nx prog w A.in1 (uH s) Good i1 st1 st1' P1) (k:Nx prog w A.in1 (uH s) Good i2 st2 st2' P2) (j:st1 s.heap) (i:st2 s.heap)
    (l:∀d tk f e g,Good d tk->P1 f->P2 e->IsZip d z TI TO .ellipsis->IsPair d TI (.ref i1) (.ref i2)->IsPair d TO f e->st1' d->st2' d->IsZip g z TI TO (rawInt d.objs.size) ->
      (∀c o,c≠z->(d.push {cls:=.type "tuple",data:=.seq #[f,e]}).get? c=some o->g.get? c=some o)->Q (.ref d.objs.size) (uH s g tk)) :
    wpAny (model prog w) A (pyNext (.ref z)) (λr h=>∃v,r=some v/\Q v h) E s:=by
  have hT:s.TypeIs (.ref z) "zip":=⟨_,hz,rfl⟩
  unfold pyNext
  exact V4 (wpAny_attempt (wpAny_callSpecial?_slot (name:=oS "__next__") hT F.slot_zip_next (wpAny_call_entry F.slot_zip_next hT F.entry_zip_next
      (lO (Q:=λv h=>_) D hz hI hO m cl n1 k j i λd tk f e g c1 c2 c3 c4 c5 c6 c7 c8 c9 c10=>V8 ⟨_,rfl,l d tk f e g c1 c2 c3 c4 c5 c6 c7 c8 c9 c10⟩) (F.args_zip_next_1 _))))
inductive Src where
 | lst (a:V_)
def Src.val:Src->V5
 | .lst a=>.ref a
def Src.obj:Src->Obj
 | .lst a=>{cls:=.type "list_iterator",data:=.fields #[.ref a,.int 0 0]}
def Src.ok(h:WK):Src->Prop
 | .lst a=>∃xs,h.IsList a xs
def Src.at(it:V_)(i:Nat)(h:WK):Src->Prop
 | .lst a=>h.IsListIter it a i
def Src.iter{S:Src}{Q:V5->V7->Prop}(h:S.ok s.heap)(c:Q (.ref s.heap.objs.size) {s with heap:=s.heap.push S.obj}):wpAny (model prog w) A (pyIter S.val) Q E s:=by
 cases S with
 | lst a=>obtain⟨xs,h⟩:=h;exact wpAny_pyIter_list h c
def Src.keep{S:Src}{it:V_}{i:Nat}{h h':WK}(q:S.at it i h)(k:∀o,h.get? it=some o->h'.get? it=some o):S.at it i h':=by
 cases S with
 | lst a=>exact Heap.IsListIter.at q k
def Src.obj_at{S:Src}{it:V_}{i:Nat}{h:WK}(q:S.at it i h):∃o,h.get? it=some o/\∀v,o.data≠.cell v:=by
 cases S with
 | lst a=>obtain⟨o,e,c,d⟩:=q;exact⟨o,e,λv z=>by rw[d] at z;cases z⟩
def Src.start{S:Src}{it:V_}{h:WK}(q:h.get? it=some S.obj):S.at it 0 h:=by
 cases S<;>exact⟨_,q,rfl,rfl⟩
def Src.nx {S:Src} {it:V_} {i:Nat} {P:V5->Prop} (f:∀h tk,Good h tk->match S with
  | .lst a=>∃xs x,h.IsList a xs/\xs[i]?=some x/\P x):Nx prog w A (uH s) Good it (λh=>S.at it i h) (λh=>S.at it (i+1) h) P where
 stay:=λ_ _ q k=>Src.keep q k
 stay':=λ_ _ q k=>Src.keep q k
 run:=λh tk Q E j q g=>by
  have z:=f h tk j;cases S with
  | lst a=>obtain⟨xs,x,l,e,p⟩:=z;exact wpAny_nextOf_list_item (s:=uH s h tk) q l e λh' d c=>g x h' tk p d c
def Src.ne {S:Src} {it:V_} {i:Nat} (d:A.handled=none) (c:∀h tk,Good h tk->match S with
  | .lst a=>∃xs,h.IsList a xs/\xs[i]?=none):Ne prog w A (uH s) Good it (λh=>S.at it i h) where
 stay:=λ_ _ q k=>Src.keep q k
 run:=λh tk Q E g q f=>by
  have z:=c h tk g;cases S with
  | lst a=>obtain⟨xs,l,e⟩:=z;exact wpAny_nextOf_list_end (s:=uH s h tk) d q l e f
end
def MK(h:WK)(S T:Src):WK:=(((h.push S.obj).push T.obj).push {cls:=.type "tuple",data:=.seq #[.ref h.objs.size,.ref (h.push S.obj).objs.size]}).push {cls:=.type "tuple",data:=.seq #[.none,.none]}
noncomputable def RK(h:WK)(S T:Src):Obj:={cls:=.type "zip",data:=.fields #[.none,.bool false,.bool false,.ref ((h.push S.obj).push T.obj).objs.size,
 .ref (((h.push S.obj).push T.obj).push {cls:=.type "tuple",data:=.seq #[.ref h.objs.size,.ref (h.push S.obj).objs.size]}).objs.size]}
def Src.ok_push{S T:Src}{h:WK}(q:T.ok h):T.ok (h.push S.obj):=by
 cases T with
 | lst a=>obtain⟨xs,q⟩:=q;exact⟨xs,Heap.IsList.push q _⟩
def nJ(S T:Src):Meets (Builtin.«zip.__new__» ⟨[.type "zip",S.val,T.val],[]⟩) (λ_ R s=>S.ok s.heap/\T.ok s.heap/\R (.ok (.ret (.ref (MK s.heap S T).objs.size))) {s with heap:=(MK s.heap S T).push (RK s.heap S T)}):=
 .of_wp λprog w A R s h=>by
  obtain⟨b,g,d,tk,os⟩:=s;obtain⟨f,e,h⟩:=h;have a:=sub_zip;have r1:Src.ok (Shared.heap ⟨b,g,d,tk,os⟩) S:=f;have c:Src.ok (Shared.heap ⟨b.push S.obj,g,d,tk,os⟩) T:=Src.ok_push e
  wp_walk using Src.iter r1,Src.iter c
  exact⟨_,rfl,h⟩
section
variable{prog:Wr}{w:WC}{A:WM}{E:V5->V7->Prop}{s:V7}
def Pz(n:Nat):Ap (n+4) (n+2) (n+3) n (n+1):=by
 have k:∀a b:Nat,a≠b->(show V_ from a)≠(show V_ from b):=λa b h=>h
 constructor<;>exact k _ _ (by omega)
def kP {S T:Src} {Q:V5->V7->Prop} (h1:S.ok s.heap) (l:T.ok s.heap)
    (h:∀h' z TI TO b a,Ap z TI TO b a->IsZip h' z TI TO .none->IsPair h' TI (.ref b) (.ref a)->IsPair h' TO .none .none->S.at b 0 h'->T.at a 0 h'->(∀c ∈ [z,TI,TO,b,a],s.heap.objs.size<=c) ->
      (∀c o,s.heap.get? c=some o->h'.get? c=some o)->Q (.ref z) {s with heap:=h' }):wpAny (model prog w) A (call (.type "zip") [S.val,T.val]) Q E s:=by
  refine callType_new F.called_zip (by decide) (F.typeCall_zip_2 _ _) (F.newCall_zip_2 _ _) (λobj=>F.args_object_init_3 obj _ _) F.entry_zip_new (nJ S T) ⟨h1,l,?_⟩;have g:(s.heap.push S.obj).objs.size=s.heap.objs.size+1:=Heap.size_push ..;have f:((s.heap.push S.obj).push T.obj).objs.size=s.heap.objs.size+2:=by rw[Heap.size_push,g]
  have d:(((s.heap.push S.obj).push T.obj).push {cls:=.type "tuple",data:=.seq #[.ref s.heap.objs.size,.ref (s.heap.push S.obj).objs.size]}).objs.size=s.heap.objs.size+3:=by rw[Heap.size_push,f]
  have i:(MK s.heap S T).objs.size=s.heap.objs.size+4:=by unfold MK;rw[Heap.size_push,d]
  have k1:∀c o,(s.heap.push S.obj).get? c=some o->((MK s.heap S T).push (RK s.heap S T)).get? c=some o:=λc o e=>V6 _ (V6 _ (V6 _ (V6 _ e)))
  have q:=k1 _ _ (Wf s.heap (o:=S.obj) (by cases S<;>rfl));have p:((MK s.heap S T).push (RK s.heap S T)).get? (s.heap.push S.obj).objs.size=some T.obj:=V6 _ (V6 _ (V6 _ (Wf _ (by cases T<;>rfl))));have n:((MK s.heap S T).push (RK s.heap S T)).get? ((s.heap.push S.obj).push T.obj).objs.size=some _:=V6 _ (V6 _ (Wf _ rfl));have m:((MK s.heap S T).push (RK s.heap S T)).get? (((s.heap.push S.obj).push T.obj).push {cls:=.type "tuple",data:=.seq #[.ref s.heap.objs.size,.ref (s.heap.push S.obj).objs.size]}).objs.size=some _:=V6 _ (Wf _ rfl);have k:((MK s.heap S T).push (RK s.heap S T)).get? (MK s.heap S T).objs.size=some _:=Wf _ rfl;refine⟨⟨_,k,rfl⟩,h _ _ _ _ _ _ ?_ k n m (Src.start q) (Src.start p) ?_ λc o e=>k1 c o (V6 _ e)⟩
  · rw[i,d,f,g]
    exact Pz _
  · rw[i,d,f,g]
    intro c j;simp only[Wo,List.not_mem_nil,or_false] at j;rcases j with rfl | rfl | rfl | rfl | rfl
    · exact Nat.le_add_right _ 4
    · exact Nat.le_add_right _ 2
    · exact Nat.le_add_right _ 3
    · exact Wl _
    · exact Nat.le_add_right _ 1
end
end HW
namespace HW
open PySem PySem.Spec PyProof.Rows L2
def Src.go(K:Wb)(i:Nat)(H:Hp)(v:V):Src->Prop
 | .lst a=>∃xs,uI K H a xs/\xs[i]?=some v
def Src.stop(K:Wb)(i:Nat)(H:Hp):Src->Prop
 | .lst a=>∃xs,uI K H a xs/\xs.length<=i
section
variable{X:Cx}{pins:List (V_×Obj)}{σ:L2.St}{H:Hp}{s:V7}{S:Src}{i:Nat}{v:V}
def gj(q:S.go X.K i H v):Nx X.prog X.w A (uH s) (λh tk=>L2.Inv X pins σ H (uH s h tk)) it (λh=>S.at it i h) (λh=>S.at it (i+1) h) (RelV v):=by
 refine Src.nx λh tk I=>?_
 cases S with
 | lst a =>
  obtain⟨xs,g,e⟩:=q;obtain⟨d,b,p,hz⟩:=I.list g;obtain⟨u,f,c⟩:=b.get e;exact⟨_,u,p.isList,by simpa using f,c⟩
def pA(e:A.handled=none)(q:S.stop X.K i H):Ne X.prog X.w A (uH s) (λh tk=>L2.Inv X pins σ H (uH s h tk)) it (λh=>S.at it i h):=by
 refine Src.ne e λh tk I=>?_
 cases S with
 | lst a =>
  obtain⟨xs,d,f⟩:=q;obtain⟨c,b,p,hz⟩:=I.list d;have g:=b.length;exact⟨_,p.isList,by simp;omega⟩
end
section
variable{X:Cx}
def Ka(K:Wb)(H:Hp)(ds:LD):Src->Prop
 | .lst a=>∃xs,uI K H a xs/\g7 K H ds xs
def Ht{K:Wb}{i:Nat}(h:Ka K H ds S)(k:Kp H b)(e:ds[i]?=some d):∃v,S.go K i b v/\Rep K b d v:=by
 cases S with
 | lst a =>
  obtain⟨xs,c,t⟩:=h;obtain⟨v,h1,f⟩:=t.get e;exact⟨v,⟨xs,k.seq c,h1⟩,f.kp k⟩
def Jy{K:Wb}{i:Nat}(h:Ka K H ds S)(k:Kp H b)(e:ds.length<=i):S.stop K i b:=by
 cases S with
 | lst a=>obtain⟨xs,c,t⟩:=h;exact⟨xs,k.seq c,by rw[<- t.length];exact e⟩
def lV(I:L2.Inv X b d H s)(r:Rep X.K H (.lst xs) v)(f:RelV v u) :
  ∃S:Src,u=S.val/\S.ok s.heap/\Ka X.K H xs S:=by
 obtain⟨a,e,rfl,c,t⟩:=r;cases (show u=_ from f);obtain⟨g,h,p,hz⟩:=I.list (uI.of c);exact⟨.lst a,rfl,⟨_,p.isList⟩,e,uI.of c,t⟩
end
end HW
namespace HW
open PySem
end HW
namespace L2
open PySem PySem.Spec PyProof.Rows
section
variable{κ:Type}[DecidableEq κ]
def vY(a:List (κ×V))(k:κ):V3 V:=(a.find? λkv=>decide (kv.1=k)).map (·.2)
def putK(a:List (κ×V))(k:κ)(v:V):List (κ×V):=
 if (a.any λkv=>decide (kv.1=k))=true then a.map (λkv=>if kv.1=k then (kv.1,v) else kv) else a++[(k,v)]
def AZ{p:κ×V}{r:List (κ×V)}{k:κ}(e:p.1=k):vY (p::r) k=some p.2:=by simp[vY,List.find?_cons,e]
def Bf{p:κ×V}{r:List (κ×V)}{k:κ}(e:¬ p.1=k):vY (p::r) k=vY r k:=by simp[vY,List.find?_cons,e]
theorem Bb(k:κ):∀a:List (κ×V),(a.any λkv=>decide (kv.1=k))=(vY a k).isSome
 | []=>rfl
 | p::r=>by
  rw[List.any_cons];by_cases e:p.1=k
  ·simp only[AZ e,WP e,Bool.true_or,Option.isSome_some]
  ·rw[Bf e,Wx e,Bool.false_or];exact Bb k r
def zm(a:List (κ×V))(k:κ)(v:V):(putK a k v).length<=a.length+1:=by
 unfold putK;split
 ·rw[V9];omega
 ·rw[WB,WH,List.length_nil];omega
def Lf{a:List (κ×V)}{k:κ}(v:V)(h:vY a k=none):putK a k v=a++[(k,v)]:=by
 unfold putK;rw[Bb,h];exact Wu (by decide)
def BU.isSome_eq(r:BU o u):o.isSome=u.isSome:=by
 cases o with
 | none=>cases u with
  | none=>rfl
  | some _=>exact(show False from r).elim
 | some _=>cases u with
  | none=>exact(show False from r).elim
  | some _=>rfl
def KV.val(r:KV a d)(k:κ):BU (vY a k) (valueAt d k):=by
 unfold KV at r
 induction r with
 | nil=>exact True.intro
 | @cons p q ps qs h t ih =>
  obtain⟨h1,f⟩:=h;by_cases e:p.1=k
  ·have c:q.1=k:=h1.symm.trans e
   have b:valueAt (q::qs) k=some q.2:=by simp[valueAt,List.find?_cons,c]
   rw[AZ e,b];exact f
  ·have c:¬ q.1=k:=λz=>e (h1.trans z)
   have b:valueAt (q::qs) k=valueAt qs k:=by simp[valueAt,List.find?_cons,c]
   rw[Bf e,b];exact ih
theorem KV.any(r:KV a b)(k:κ):(a.any λkv=>decide (kv.1=k))=b.any λkv=>decide (kv.1=k):=by
 unfold KV at r
 induction r with
 | nil=>rfl
 | cons h t ih=>rw[List.any_cons,List.any_cons,ih,h.1]
def KV.repl(r:KV a b)(k:κ)(c:RelV y u) :
  KV (a.map λkv=>if kv.1=k then (kv.1,y) else kv) (b.map λkv=>if kv.1=k then (kv.1,u) else kv):=by
 unfold KV at r ⊢
 induction r with
 | nil=>exact .nil
 | @cons p q ps qs h t ih =>
  rw[Ww,Ww];refine .cons ?_ ih;obtain⟨h1,d⟩:=h;by_cases e:p.1=k
  ·rw[Wc e,Wc (h1.symm.trans e)];exact⟨h1,c⟩
  ·rw[Wu e,Wu (λz=>e (h1.trans z))];exact⟨h1,d⟩
def KV.put(r:KV a b)(k:κ)(c:RelV y u):KV (putK a k y) (stored b k u):=by
 unfold putK stored;rw[r.any k];by_cases e:(b.any λkv=>decide (kv.1=k))=true
 ·rw[Wc e,Wc e];exact r.repl k c
 ·rw[Wu e,Wu e];exact Paired.snoc r ⟨rfl,c⟩
theorem KV.length(r:KV a b):a.length=b.length:=Paired.length r
end
def Ff(r:RelV (kV k) u):(l7 P w).is k u=true:=by
 cases k with
 | inl i=>obtain⟨t,e⟩:=(show ∃t,u=Value.int i t from r);subst e;exact Fi P w i t
 | inr x=>obtain⟨t,e⟩:=(show ∃t,u=Value.str x t from r);subst e;exact Er P w x t
theorem yQ:∀{ks:List Key} {us:List V5},qP (ks.map kV) us->ItemsAre (l7 P w) ks us
 | [],_,r=>by rw[List.map_nil] at r;cases r;exact .nil
 | k::ks,_,r=>by
  rw[Ww] at r;cases r with
  | cons h t=>exact .cons (Ff h) (yQ t)
abbrev KT(H:Hp):List (List Key×V)->List (List Key×V_×V5)->Prop:=Paired λp q=>p.1=q.1/\H q.2.1=some (.tup (p.1.map kV))/\RelV p.2 q.2.2
def KT.val(r:KT H a xs)(k:List Key):BU (vY a k) ((atKey xs k).map (·.2)):=by
 induction r with
 | nil=>exact True.intro
 | @cons p q ps qs h t ih =>
  obtain⟨h1,_,d⟩:=h;by_cases e:p.1=k
  ·have c:q.1=k:=h1.symm.trans e
   have b:atKey (q::qs) k=some q.2:=by simp[atKey,List.find?_cons,c]
   rw[AZ e,b];exact d
  ·have c:¬ q.1=k:=λz=>e (h1.trans z)
   have b:atKey (q::qs) k=atKey qs k:=by simp[atKey,List.find?_cons,c]
   rw[Bf e,b];exact ih
def KT.repl(r:KT H a xs)(k:List Key)(c:RelV y u) :
  KT H (a.map λkv=>if kv.1=k then (kv.1,y) else kv) (xs.map (putAt k u)):=by
 induction r with
 | nil=>exact .nil
 | @cons p q ps qs h t ih =>
  rw[Ww,Ww];refine .cons ?_ ih;obtain⟨h1,b,d⟩:=h;unfold putAt;by_cases e:p.1=k
  ·rw[Wc e,Wc (h1.symm.trans e)];exact⟨h1,b,c⟩
  ·rw[Wu e,Wu (λz=>e (h1.trans z))];exact⟨h1,b,d⟩
def KT.put(r:KT H a xs)(k:List Key)(d:H b=some (.tup (k.map kV)))(c:RelV y u) :
  KT H (putK a k y) (storedH xs k b u):=by
 have e:(a.any λkv=>decide (kv.1=k))=(atKey xs k).isSome:=by
  rw[Bb,(r.val k).isSome_eq,Option.isSome_map]
 unfold putK storedH;rw[e];by_cases q:(atKey xs k).isSome=true
 ·rw[Wc q,Wc q];exact r.repl k c
 ·rw[Wu q,Wu q];exact Paired.snoc r ⟨rfl,d,c⟩
def KT.keeps(r:KT H a xs)(e:∀b c,H b=some (.tup c)->d b=some (.tup c)):KT d a xs:=
 Paired.mapP r λ_ _ z=>⟨z.1,e _ _ z.2.1,z.2.2⟩
section
variable{P:Wr}{w:WC}{H:Hp}{h:WK}{a:V_}
def O_(ok:xy P w H h)(e:Rd H a u):rO P w H h a u:=e.ok ok
def jt(ok:xy P w H h)(e:Rd H a (.dK b)):b.length<=sizeLine/\(a==sysModules)=false/\∃c,KV b c/\h.DictOf (l7 P w) a c:=
 show rO P w H h a (.dK b) from O_ ok e
def nV(ok:xy P w H h)(e:H a=some (.dK b)):b.length<=sizeLine/\(a==sysModules)=false/\∃c,KV b c/\h.DictOf (l7 P w) a c:=jt ok (.inl e)
def C8(ok:xy P w H h)(e:H a=some (.tup (ks.map kV))):(tupleKind (l7 P w)).is h ks a:=by
 obtain⟨_,b,r,o,h1,d,⟨n,c⟩,_⟩:=(show rO P w H h a (.tup (ks.map kV)) from ok a _ e)
 exact⟨o,b.toArray,n,h1,d,c,by simpa using yQ r⟩
def jz(ok:xy P w H h)(e:Rd H a (.dT b)):b.length<=sizeLine/\(a==sysModules)=false /\
  ∃xs,KT H b xs/\h.DictOfH (tupleKind (l7 P w)) a xs:=by
 obtain⟨z,y,xs,r,o,es,j,h1,i,g,f,d⟩:=(show rO P w H h a (.dT b) from O_ ok e)
 refine⟨z,y,xs,r,o,es,j,h1,i,g,f,λx c=>?_,d⟩
 have all:∀{l:List (List Key×V)} {m:List (List Key×V_×V5)},KT H l m->∀x∈m,(tupleKind (l7 P w)).is h x.1 x.2.1:=by
  intro l m q
  induction q with
  | nil=>intro x c;exact nomatch c
  | @cons p q ps qs hq t ih =>
   intro x c;rcases Wo.mp c with e | c
   ·subst e
    exact C8 ok (by rw[<- hq.1];exact hq.2.1)
   ·exact ih x c
 exact all r x c
def qC(ok:xy P w H h)(e:H a=some (.dT b)):b.length<=sizeLine/\(a==sysModules)=false /\
  ∃xs,KT H b xs/\h.DictOfH (tupleKind (l7 P w)) a xs:=jz ok (.inl e)
end
def Dl(H:Hp)(a:V_)(y:V)(r:V3 V):Prop:=
 (∃c k,Rd H a (.dK c)/\y=kV k/\r=vY c k)\/∃c k b,Rd H a (.dT c)/\y=.ref b/\H b=some (.tup (k.map kV))/\r=vY c k
def L9(H:Hp)(a:V_)(y v:V)(d:Hp):Prop:=
 (∃c k,H a=some (.dK c)/\y=kV k/\c.length<sizeLine/\d=upd H a (.dK (putK c k v))) \/
 ∃c k b,H a=some (.dT c)/\y=.ref b/\H b=some (.tup (k.map kV))/\c.length<sizeLine/\d=upd H a (.dT (putK c k v))
theorem Dl.k{H:Hp}{a:V_}{b:List (Key×V)}{k:Key}(e:H a=some (.dK b)):Dl H a (kV k) (vY b k):=.inl ⟨b,k,.inl e,rfl,rfl⟩
theorem L9.k{H:Hp}{a:V_}{b:List (Key×V)}{k:Key}{v:V}(e:H a=some (.dK b))(c:b.length<sizeLine):L9 H a (kV k) v (upd H a (.dK (putK b k v))):=.inl ⟨b,k,e,rfl,c,rfl⟩
section
variable{X:Cx}{pins:List (V_×Obj)}{σ:St}{H:Hp}{s:V7}{a:V_}{y v:V}{u r:V5}{o:V3 V}{A:WM}{E:V5->V7->Prop}
def Inv.big(I:Inv X pins σ H s):sysModules<s.heap.objs.size:=by
 have h:mainGlobals<s.heap.objs.size:=(I.mod.glob.keeps I.bk).lt;exact Nat.lt_trans (by decide) h
def j9(B:A.units+1<cLine)(I:Inv X pins σ H s)(g:Dl H a y (some v))(t:RelV y u)(h:∀f q,Inv X pins σ H q->RelV v f->Q f q) :
  wpAny (model X.prog X.w) A (getItem (.ref a) u) Q E s:=by
 rcases g with ⟨i,k,e,n,l⟩ | ⟨i,k,b,e,n,F,l⟩
 ·subst n
  obtain⟨z,hd,x,d,dd⟩:=jt I.hok e;obtain⟨f,j,c⟩:=BU.some_of (v:=v) (o:=valueAt x k) (by rw[l];exact d.val k);exact wpAny_getItem_of (Ff t) dd.mapOf j (h f _ (I.tok _) c)
 ·subst n
  cases (show u=Value.ref b from t);obtain⟨z,hd,xs,d,dd⟩:=jz I.hok e;obtain⟨f,j,c⟩:=BU.some_of (v:=v) (o:=(atKey xs k).map (·.2)) (by rw[l];exact d.val k);obtain⟨p,C,m⟩:=Option.map_eq_some_iff.mp j;refine wpAny_getItem_heap (tupleKind_room_in1 B) (C8 I.hok F) dd C ?_;rw[m];exact h f _ (I.tok _) c
def mR(m:A.units+1<cLine)(I:Inv X pins σ H s)(g:Dl H a y o)(j:RelV y u)(h:∀i,Inv X pins σ H i->Q (.bool (!o.isSome)) i) :
  wpAny (model X.prog X.w) A (compareOp .NotIn u (.ref a)) Q E s:=by
 rcases g with ⟨d,k,e,f,l⟩ | ⟨d,k,b,e,f,n,l⟩
 ·subst f
  obtain⟨z,hd,p,c,dd⟩:=jt I.hok e;refine wpAny_notIn_of (Ff j) hd dd.mapOf ?_;rw[<- (c.val k).isSome_eq,<- l];exact h _ (I.tok _)
 ·subst f
  cases (show u=Value.ref b from j);obtain⟨z,hd,xs,c,dd⟩:=jz I.hok e;refine wpAny_notIn_heap (tupleKind_room_in1 m) (C8 I.hok n) hd dd ?_;have q:=(c.val k).isSome_eq;rw[Option.isSome_map] at q;rw[<- q,<- l];exact h _ (I.tok _)
def dl{t':Nat}(I:Inv X pins σ H s)(c:SJ (H a))(d:Heap.SameBut a s.heap h')(f:∃q,h'.get? a=some q)(new:rO X.prog X.w (upd H a ob) h' a ob) :
  Inv X pins σ (upd H a ob) {s with heap:=h',toks:=t' }:=
 I.write (x:=a) (e:=a) c (.inl rfl) (λb q g z=>(d.2 b g).trans z) f new
def lD(z:b.length<=sizeLine)(hd:(a==sysModules)=false)(d:KV b c)(dd:h'.DictOf (l7 P w) a c) :
  rO P w e h' a (.dK b):=⟨z,hd,c,d,dd⟩
def jY(L:A.units+1<cLine)(I:Inv X pins σ H s)(g:L9 H a y v J)(B:RelV y u)(C:RelV v r)(h:∀x,Inv X pins σ J x->Q () x) :
  wpAny (model X.prog X.w) A (setItem (.ref a) u r) Q E s:=by
 rcases g with ⟨f,k,e,p,l,t⟩ | ⟨f,k,b,e,p,G,l,t⟩
 ·subst p t
  obtain⟨z,hd,K,d,dd⟩:=nV I.hok e;have hz:K.length<=sizeLine:=by rw[<- d.length];exact z
  have n:(putK f k v).length<=sizeLine:=by have:=zm f k v;omega
  refine wpAny_setItem_pairs (hsz:=hz) (Ff B) dd λh' i m=>h _ ?_
  have M:∃q,h'.get? a=some q:=let ⟨q,_,_,j,_⟩:=i;⟨q,j⟩;exact dl I (by rw[e];exact True.intro) m M (lD n hd (d.put k C) i)
 ·subst p t
  cases (show u=Value.ref b from B);obtain⟨z,hd,xs,d,dd⟩:=qC I.hok e;have hz:xs.length<=sizeLine:=by rw[<- Paired.length d];exact z
  have n:(putK f k v).length<=sizeLine:=by have:=zm f k v;omega
  refine wpAny_setItem_heap (hsz:=hz) (tupleKind_room_in1 L) (C8 I.hok G) dd λh' i m=>h _ ?_
  obtain⟨q,es,T,j,S,P,O,_,N⟩:=i;refine dl I (by rw[e];exact True.intro) m ⟨q,j⟩ ⟨n,hd,_,(d.put k G C).keeps λc U F=>?_,q,es,T,j,S,P,O,N⟩;rw[ac (R9 F e (λz=>nomatch z))];exact F
end
section
variable{X:Cx}{pins:List (V_×Obj)}{σ:St}{H:Hp}{s:V7}{a:V_}{kvs:List (Key×V)}{k:Key}{u:V5}{A:WM}{E:V5->V7->Prop}
end
def QO(i:WG):Prop:=∀a b,subscripted i false a b=operate [a,b] (getItem a b)
def Hm{prog:Wr}{w:WC}{A:WM}{E:V5->V7->Prop}{s:V7}{env:Env}{b a:WG}{pos:Pos}{T id:String}{Q:V5->V7->Prop}
  (l:typeLookup (.type T) "__getitem__" = pure (some (.builtin id))) (k:QO a)
  (h:wpAny (model prog w) A (eval b env) (λo f=>wpAny (model prog w) A (eval a env) (λi c=>c.TypeIs o T/\wpAny (model prog w) A (getItem o i) Q E c) E f) E s) :
  wpAny (model prog w) A (eval (.Subscript b a pos) env) Q E s:=by
 refine Subscript_ (Xj h (λo f j=>Xj j (λi c d=>?_) λ_ _ x=>x) λ_ _ x=>x);obtain⟨hT,d⟩:=d;unfold subscriptTail;refine V4 ?_;rw[getitemInPython_of_ne hT.not_modules];refine V4 (wpAny_specialOf hT l ?_)
 have fin:wpAny (model prog w) A (subscripted a false o i) (λr e=>wpAny (model prog w) A (letTemporaryGo b o r >>= λ_=>pure r) Q E e) E c:=by
  rw[k o i];exact wpAny_operating (Xj d (λr e g=>V4 (wpAny_letTemporaryGo (V8 g))) λ_ _ x=>x)
 first
  | exact V8 (V4 fin)
  | exact V4 (V8 (V4 fin))
  | exact V4 fin
def ER(I:Inv X c f H s)(g:Dl H a y o):s.TypeIs (.ref a) "dict":=by
 rcases g with ⟨d,k,e,_,_⟩ | ⟨d,k,b,e,_,_,_⟩
 ·obtain⟨_,_,h,_,dd⟩:=jt I.hok e
  exact dd.typeIs
 ·obtain⟨_,_,xs,_,dd⟩:=jz I.hok e
  exact dd.typeIs
section
variable{X:Cx}{o i e value:WG}{pos pos' tpos:Pos}{td ty tv:TE}
end
def lQ(h:WK)(a:sysModules<h.objs.size):rO P w H (h.push {cls:=.type "dict",data:=.dict #[]}) h.objs.size (.dK []):=
 ⟨W4 _,WQ.mpr (Ne.symm (WA a)),[],.nil,Heap.DictOf.new h⟩
section
variable{X:Cx}{pos:Pos}
end
def GJ:List (TE×TE)->St->Hp->(List (V×V)->Hp->Prop)->Prop
 | [],_,H,Q=>Q [] H
 | (tk,tv)::r,σ,H,Q=>tk σ H λx c=>tv σ c λy b=>GJ r σ b λps a=>Q ((x,y)::ps) a
abbrev VV:List (V×V)->List (V5×V5)->Prop:=Paired λp q=>RelV p.1 q.1/\RelV p.2 q.2
def T3(X:Cx)(pos:Pos)(c:List (V3 WG))(a:List WG)(e:List (TE×TE)):Prop:=
 ∀(b:List (V_×Obj)) (s:V7) (d:St) (H:Hp) (Q:List (V×V)->Hp->Prop),Inv X b d H s->GJ e d H Q ->
  wpAny (model X.prog X.w) X.A (evalPairs (pairTrees c a X.env pos)) (λg h=>∃ps f,Inv X b d f h/\VV ps g/\Q ps f) X.xe s
def Na:T3 X pos [] [] []:=λa s b H Q I h=>pairTrees_nil_walk ⟨[],H,I,.nil,h⟩
def K1(p:PE X k tk)(n:PE X v f)(o:T3 X pos ks e b) :
  T3 X pos (some k::ks) (v::e) ((tk,f)::b):=λa s c H Q I h =>
 pairTrees_cons_walk (rg (p a s c H _ I h) λu s1 ⟨x,A,t,i,m⟩=>rg (n a s1 c A _ t m) λw2 s2 ⟨y,z,r,g,l⟩ =>
  rg (o a s2 c z _ r l) λws s3 ⟨ps,w,q,d,j⟩=>⟨(x,y)::ps,w,q,.cons ⟨i,g⟩ d,j⟩)
section
variable{X:Cx}{pins:List (V_×Obj)}{σ:St}{H:Hp}{s:V7}{a:V_}{y d:V}{u r:V5}{o:V3 V}{A:WM}{E:V5->V7->Prop}
end
section
variable{X:Cx}{o e f:WG}{apos cpos:Pos}{td ty tx:TE}
end
section
variable{X:Cx}{pins:List (V_×Obj)}{σ:St}{H:Hp}{s:V7}{a:V_}{kvs:List (Key×V)}{A:WM}{E:V5->V7->Prop}
end
section
variable{X:Cx}{pins:List (V_×Obj)}{σ:St}{H:Hp}{s:V7}{a:V_}{y:V}{u:V5}{A:WM}{E:V5->V7->Prop}
end
end L2
namespace HW
open PySem PySem.Spec PyProof.Rows L2
def DA(P:Wr)(w:WC)(a:V_)(b:List (Key×V)):HO:=.ext λh=>b.length<=sizeLine/\(a==sysModules)=false/\∃c,KV b c/\h.DictOf (l7 P w) a c
section
variable{X:Cx}{pins:List (V_×Obj)}{σ:L2.St}{H:Hp}{s:V7}{a:V_}{kvs:List (Key×V)}
def jA(I:L2.Inv X pins σ H s)(h:H a=some (DA X.prog X.w a kvs)):kvs.length<=sizeLine/\(a==sysModules)=false/\∃b,KV kvs b/\s.heap.DictOf (l7 X.prog X.w) a b:=(I.hok a _ h).1
def zT(I:L2.Inv X pins σ H s)(h:H a=some (.dK kvs)):L2.Inv X pins σ (upd H a (DA X.prog X.w a kvs)) s:=by
 obtain⟨z,y,b,r,ob,es,f,e,c⟩:=I.hok a _ h;have:=I.write (t':=s.toks) (h':=s.heap) (o:=DA X.prog X.w a kvs) (x:=a) (e:=a) (by rw[h];trivial) (.inl rfl) (λ_ _ _ q=>q) ⟨_,e⟩ ⟨⟨z,y,b,r,ob,es,f,e,c⟩,⟨_,e⟩,λh1 g d k=>by obtain⟨z,y,b,r,ob,es,f,e,c⟩:=d;exact⟨z,y,b,r,ob,es,f,k _ e,c⟩⟩;exact this
def Kj(I:L2.Inv X pins σ H s)(h:H a=some (DA X.prog X.w a kvs)):L2.Inv X pins σ (upd H a (.dK kvs)) s:=by
 obtain⟨z,y,b,r,ob,es,d,e,c⟩:=jA I h;have:=I.write (t':=s.toks) (h':=s.heap) (o:=.dK kvs) (x:=a) (e:=a) (by rw[h];trivial) (.inl rfl) (λ_ _ _ q=>q) ⟨_,e⟩ ⟨z,y,b,r,ob,es,d,e,c⟩;exact this
end
section
variable{K:Wb}{H H':Hp}
end
section
variable{X:Cx}{st:Xi}{sts:List Xi}{u:R->V3 Out}{w:R->List (Str×D)->V3 Out}{pos:Pos}{e:WG}{es:List WG}{f:R->OD}{F:R->V3 LD}
end
section
variable{X:Cx}{sts:List Xi}{w:R->List (Str×D)->V3 Out}{pos:Pos}{f:R->OD}
end
end HW
namespace HW
open PySem
end HW
namespace HW
open PySem PySem.Spec PyProof.Rows L2
variable{X:Cx}
end HW
namespace HW
open PySem PySem.SetTable
def LJ(xs:Array Nat)(j:Nat)(H:∀a b,a<b->b<xs.size->xs.getD a 0<xs.getD b 0):∀c f d,d - f<=c->f<=d->d<=xs.size ->
  (∀i,i<f->xs.getD i 0<j)->(∀i,d<=i->i<xs.size->j<=xs.getD i 0) ->
  below.go xs j c f d<=xs.size/\(∀i,i<below.go xs j c f d->xs.getD i 0<j)/\(∀i,below.go xs j c f d<=i->i<xs.size->j<=xs.getD i 0):=by
 intro c
 induction c with
 | zero =>
  intro f d h1 r m l k;have:f=d:=by omega
  subst this;exact⟨m,l,k⟩
 | succ c ih =>
  intro f d h1 r m l k;unfold below.go;by_cases g:f<d
  ·rw[Wc g]
   have p:(f+d) / 2<xs.size:=by omega
   have e:xs.getD ((f+d) / 2) j=xs.getD ((f+d) / 2) 0:=by simp[Array.getD,p]
   show(if xs.getD ((f+d) / 2) j<j then _ else _:Nat)<=_/\_;dsimp only;rw[e];by_cases h:xs.getD ((f+d) / 2) 0<j
   ·rw[Wc h]
    refine ih _ _ (by omega) (by omega) m (λi n=>?_) k;by_cases o:i=(f+d) / 2
    ·subst o;exact h
    ·exact Nat.lt_trans (H i _ (by omega) p) h
   ·rw[Wu h]
    refine ih _ _ (by omega) (by omega) (by omega) l (λi n q=>?_);by_cases o:i=(f+d) / 2
    ·subst o;omega
    ·have:=H _ i (by omega:(f+d) / 2<i) q;omega
  ·rw[Wu g]
   have:f=d:=by omega
   subst this;exact⟨m,l,k⟩
def QN(xs:Array Nat):Prop:=∀a b,a<b->b<xs.size->xs.getD a 0<xs.getD b 0
def vK(H:QN xs)(j:Nat):below xs j<=xs.size/\(∀i,i<below xs j->xs.getD i 0<j)/\(∀i,below xs j<=i->i<xs.size->j<=xs.getD i 0):=
 LJ xs j H xs.size 0 xs.size (by omega) (by omega) (by omega) (λi h=>by omega) (λi h h'=>by omega)
def Ow(H:QN xs):below xs 0=0:=by
 obtain⟨a,b,c⟩:=vK H 0;rcases Nat.eq_zero_or_pos (below xs 0) with h | h
 ·exact h
 ·have:=b 0 h;omega
def Nd(H:QN xs){i:Nat}(d:i<xs.size):below xs (xs.getD i 0+1)=i+1:=by
 obtain⟨a,b,c⟩:=vK H (xs.getD i 0+1);generalize below xs (xs.getD i 0+1)=r at *
 rcases Nat.lt_or_ge i r with h | h
 ·rcases Nat.lt_or_ge (i+1) r with h' | h'
  ·have h1:=b (i+1) h'
   have e:=H i (i+1) (by omega) (by omega);omega
  ·omega
 ·have:=c i h d;omega
def yf(xs:Array a)(p:Nat)(x:a):(insertAt xs p x).toList=xs.toList.take p++x::xs.toList.drop p:=by
 simp[SetTable.insertAt,List.extract_eq_take_drop,List.take_of_length_le]
def getD_list(xs:Array a)(i:Nat)(d:a):xs.getD i d=xs.toList[i]?.getD d:=by simp
def DL(xs:Array a){p i:Nat}(x d:a)(b:p<=xs.size)(h:i<p):(insertAt xs p x).getD i d=xs.getD i d:=by
 rw[getD_list,getD_list,yf,WV (by rw[List.length_take_of_le (by simpa using b)];exact h),List.getElem?_take_of_lt h]
def KS(xs:Array a){p:Nat}(x d:a)(b:p<=xs.size):(insertAt xs p x).getD p d=x:=by
 have e:(xs.toList.take p).length=p:=List.length_take_of_le (by simpa using b);rw[getD_list,yf,WI (by rw[e];exact Wl _),e,Nat.sub_self];rfl
def KC(xs:Array a){p i:Nat}(x d:a)(b:p<=xs.size)(h:p<=i):(insertAt xs p x).getD (i+1) d=xs.getD i d:=by
 have e:(xs.toList.take p).length=p:=List.length_take_of_le (by simpa using b);rw[getD_list,getD_list,yf,WI (by rw[e];exact Nat.le_succ_of_le h),e,Nat.succ_sub h,List.getElem?_cons_succ,List.getElem?_drop,Nat.add_sub_cancel' h]
def tU(xs:Array a)(p:Nat)(x:a)(b:p<=xs.size):(insertAt xs p x).size=xs.size+1:=by
 rw[<- WL,yf,WB,WH,<- Nat.add_assoc,<- WB,List.take_append_drop,WL]
def GG(H:QN xs){j:Nat}(n:(xs[below xs j]?==some j)=false):QN (insertAt xs (below xs j) j):=by
 obtain⟨a,b,c⟩:=vK H j
 have l:below xs j<xs.size->xs.getD (below xs j) 0≠j:=λh e=>by
  rw[Xa h] at n;simp[Array.getD,h] at e;simp[e] at n
 generalize below xs j=r at *
 intro u v d m;rw[tU _ _ _ a] at m;rcases Nat.lt_trichotomy v r with f | f | f
 ·rw[DL _ _ _ a f,DL _ _ _ a (Nat.lt_trans d f)]
  exact H u v d (Wv f a)
 ·subst f
  rw[KS _ _ _ a,DL _ _ _ a d];exact b u d
 ·obtain⟨w,rfl⟩:∃w,v=w+1:=⟨v - 1,(Nat.succ_pred_eq_of_pos (Xg (W4 _) f)).symm⟩
  have i:w<xs.size:=Nat.lt_of_succ_lt_succ m;have g:r<=w:=Nat.le_of_lt_succ f
  have k:j<xs.getD w 0:=by
   rcases Nat.eq_or_lt_of_le g with q | q
   ·subst q
    exact Nat.lt_of_le_of_ne (c r g i) (Ne.symm (l i))
   ·exact Xg (c r (Wl _) (Nat.lt_trans q i)) (H r w q i)
  rw[KC _ _ _ a g];rcases Nat.lt_trichotomy u r with h1 | h1 | h1
  ·rw[DL _ _ _ a h1]
   exact Nat.lt_trans (b u h1) k
  ·subst h1
   rw[KS _ _ _ a];exact k
  ·obtain⟨z,rfl⟩:∃z,u=z+1:=⟨u - 1,(Nat.succ_pred_eq_of_pos (Xg (W4 _) h1)).symm⟩
   rw[KC _ _ _ a (Nat.le_of_lt_succ h1)];exact H z w (Nat.lt_of_succ_lt_succ d) i
def gap(H:QN xs)(m:xs.size<=7):∃j,j<8/\∀i:Nat,xs[i]?≠some j:=by
 refine Classical.byContradiction λk=>?_
 have a:∀j,j<8->∃i,i<xs.size/\xs.getD i 0=j:=λj d=>by
  refine Classical.byContradiction λh=>k ⟨j,d,λi e=>h ⟨i,?_⟩⟩
  have:i<xs.size:=by
   rcases Nat.lt_or_ge i xs.size with h | h
   ·exact h
   ·rw[Array.getElem?_eq_none h] at e;cases e
  exact⟨this,by simp[e]⟩
 have b:∀i,i<xs.size->i<=xs.getD i 0:=λi=>by
  induction i with
  | zero=>intro _;omega
  | succ i ih=>intro h;have:=ih (by omega);have:=H i (i+1) (by omega) h;omega
 have c:∀j,j<8->j<xs.size/\xs.getD j 0=j:=λj=>by
  induction j with
  | zero =>
   intro _;obtain⟨i,h1,g⟩:=a 0 (by omega);have:=b i h1;have:i=0:=by omega
   subst this;exact⟨h1,g⟩
  | succ j ih =>
   intro d;obtain⟨h1,g⟩:=ih (by omega);obtain⟨i,f,l⟩:=a (j+1) d;have o:=b i f
   have n:j<i:=by
    rcases Nat.lt_trichotomy i j with h | h | h
    ·have:=H i j h h1;omega
    ·subst h;omega
    ·exact h
   have:i=j+1:=by omega
   subst this;exact⟨f,l⟩
 have:=c 7 (by omega);omega
structure TI (t:SetTable) (n:Nat):Prop where
 mask:t.mask=7
 dum:t.dummies=#[]
 plain:t.plain=true
 ris:QN t.place
 size:t.place.size=n
def slot_of{t:SetTable}(hd:t.dummies=#[])(j:Nat):t.slot j=if (t.place[below t.place j]?==some j)=true then .live (below t.place j) else .empty:=by
 unfold SetTable.slot;dsimp only;rw[hd];by_cases h:(t.place[below t.place j]?==some j)=true
 ·rw[Wc h,Wc h]
 ·rw[Wu h,Wu h];rfl
def way(i a:Nat):Nat->Nat×Nat
 | 0=>(i,a)
 | k+1=>way ((i*5+1+a / 32)%8) (a / 32) k
def Np(k:Nat):∀i a m,way i a (k+m)=way (way i a k).1 (way i a k).2 m:=by
 induction k with
 | zero=>intro i a m;rw[Nat.zero_add];rfl
 | succ k ih=>intro i a m;rw[Nat.succ_add];exact ih _ _ _
theorem Lr:∀k i a,i<8->(way i a k).1<8
 | 0,_,_,h=>h
 | k+1,i,a,_=>Lr k _ _ (Nat.mod_lt _ (by decide))
theorem Lw:∀k i a,a<32 ^ k->(way i a k).2=0
 | 0,_,a,h=>by simp at h;exact h
 | k+1,i,a,h=>Lw k _ _ (by rw[Nat.pow_succ] at h;exact Nat.div_lt_of_lt_mul (by omega))
def NW:∀i,i<8->∀j,j<8->∃k,k<8/\(way i 0 k).1=j:=by decide
def Iw(i a j:Nat)(d:i<8)(b:a<2 ^ 64)(c:j<8):∃k,k<21/\(way i a k).1=j:=by
 have h1:=Lw 13 i a (Wv b (by decide));obtain⟨k,f,e⟩:=NW (way i a 13).1 (Lr 13 _ _ d) j c;refine⟨13+k,by omega,?_⟩;rw[Np,h1];exact e
def V1{t:SetTable}(b:t.mask=7)(i a:Nat):t.advance ⟨i,0,i,a,none⟩=⟨(i*5+1+a / 32)%8,0,(i*5+1+a / 32)%8,a / 32,none⟩:=by
 unfold advance leap runEnd;rw[b];simp only[gt_iff_lt,Xf,if_false];have:¬ ((i*5+1+a / 32)%(7+1)+9<=7):=by omega
 rw[Wu this,Nat.sub_self]
def LX{n:Nat}(T:TI t n)(h:Int):∀k a i b,k<a->(t.place[below t.place (way i b k).1]?==some (way i b k).1)=false ->
  ∃j,(t.place[below t.place j]?==some j)=false/\probe.go t (λ_=>h+1) h a ⟨i,0,i,b,none⟩=some (.empty j none):=by
 intro k
 induction k with
 | zero =>
  intro a i b g d;obtain⟨f,rfl⟩:∃f,a=f+1:=⟨a - 1,by omega⟩
  have c:(t.place[below t.place i]?==some i)=false:=d;refine⟨i,c,?_⟩;unfold probe.go;show(match t.slot i with | .empty=>_ | .dummy=>_ | .live _=>_)=_;rw[slot_of T.dum,c];rfl
 | succ k ih =>
  intro a i b g d;obtain⟨f,rfl⟩:∃f,a=f+1:=⟨a - 1,by omega⟩
  cases e:(t.place[below t.place i]?==some i) with
  | false =>
   refine⟨i,e,?_⟩;unfold probe.go;show(match t.slot i with | .empty=>_ | .dummy=>_ | .live _=>_)=_;rw[slot_of T.dum,e];rfl
  | true =>
   obtain⟨j,h1,l⟩:=ih f ((i*5+1+b / 32)%8) (b / 32) (by omega) d;refine⟨j,h1,?_⟩;unfold probe.go;show(match t.slot i with | .empty=>_ | .dummy=>_ | .live _=>_)=_;rw[slot_of T.dum,e,Wc rfl];show(if (h+1==h)=true then _ else _)=_;rw[Wu (by simp;omega),V1 T.mask];exact l
def Ol{n:Nat}(T:TI t n)(d:n<=7)(h:Int):∃j,(t.place[below t.place j]?==some j)=false/\t.freeSlot h=some (j,false):=by
 obtain⟨g,i,a⟩:=gap T.ris (by rw[T.size];exact d)
 have m:bits h<2 ^ 64:=by
  unfold bits;have h1:=WW h (show(0:Int)<2 ^ 64 by decide);have b:=WZ h (show(2 ^ 64:Int)≠0 by decide);omega
 have f:bits h%8<8:=Nat.mod_lt _ (by decide);obtain⟨k,o,e⟩:=Iw (bits h%8) (bits h) g f m i
 have l:(t.place[below t.place (way (bits h%8) (bits h) k).1]?==some (way (bits h%8) (bits h) k).1)=false:=by
  rw[e];simpa using a _
 obtain⟨j,h1,b⟩:=LX T h k (10*turns t.mask) (bits h%8) (bits h) (by rw[T.mask];unfold turns;omega) l;refine⟨j,h1,?_⟩;unfold SetTable.freeSlot
 have c:t.probeStart h=⟨bits h%8,0,bits h%8,bits h,none⟩:=by
  unfold probeStart runEnd;rw[T.mask];have:¬ (bits h%(7+1)+9<=7):=by omega
  dsimp only;rw[Wu this,Nat.sub_self]
 rw[c];unfold SetTable.probe;rw[b];rfl
def D1(T:TI t es.size)(f:es.size<=6)(h:Int)(x:V5) :
  ∃p t',p<=es.size/\layNew t es h x=(insertAt es p (h,x),t',false,false)/\TI t' (insertAt es p (h,x)).size/\t'.led=t.led/\t'.fits (insertAt es p (h,x)).size=true:=by
 obtain⟨j,h1,e⟩:=Ol T (by omega) h;have d:below t.place j<=es.size:=by rw[<- T.size];exact(vK T.ris j).1
 have hsz:(insertAt t.place (below t.place j) j).size=es.size+1:=by rw[tU _ _ _ (by rw[T.size];exact d),T.size]
 have b:(insertAt es (below t.place j) (h,x)).size=es.size+1:=tU _ _ _ d
 have c:t.put j=({t with place:=insertAt t.place (below t.place j) j,dummies:=#[]},below t.place j):=by
  unfold SetTable.put;rw[T.dum];rfl
 have a:({t with place:=insertAt t.place (below t.place j) j,dummies:=#[]}:SetTable).fits (es.size+1)=true:=by
  unfold SetTable.fits SetTable.fill;simp[hsz,T.mask];omega
 refine⟨below t.place j,{t with place:=insertAt t.place (below t.place j) j,dummies:=#[]},d,?_,⟨T.mask,rfl,T.plain,GG T.ris h1,by rw[b];exact hsz⟩,rfl,by rw[b];exact a⟩;unfold layNew;rw[e];dsimp only;rw[c];dsimp only;rw[b];unfold SetTable.orStandIn;rw[a];rfl
def N5{n:Nat}(T:TI t n)(a:n<=4):t.tooFull=false:=by
 unfold SetTable.tooFull SetTable.fill;rw[T.mask,T.dum,T.size];simp;omega
theorem TI.fits{n:Nat}(T:TI t n)(a:n<=7):t.fits n=true:=by
 unfold SetTable.fits SetTable.fill;rw[T.mask,T.dum,T.size];simp;omega
theorem TI.fresh(c:Bool):TI (.fresh 0 0 c) 0:=⟨rfl,rfl,rfl,λa b h d=>Wz d (by simp[SetTable.fresh]),rfl⟩
theorem AQ:∀(l:List b) (i:Nat) (x:b),l[i]?=some x->(x::l.eraseIdx i).Perm l
 | [],i,x,h=>by simp at h
 | a::l,0,x,h=>by simp at h;subst h;exact .refl _
 | a::l,i+1,x,h=>by
  simp only[List.getElem?_cons_succ] at h;simp only[List.eraseIdx_cons_succ];exact(List.Perm.swap _ _ _).trans ((AQ l i x h).cons a)
theorem Hb(b:Nat->Nat):∀(a k:Nat) (left:List d) (out:Array d),left.length=a->(pickOrder.go b a k left out).toList.Perm (out.toList++left)
 | 0,k,left,out,h=>by
  have:left=[]:=List.eq_nil_of_length_eq_zero h;subst this;rw[WT];exact .refl _
 | a+1,k,left,out,h=>by
  unfold pickOrder.go;have c:b k%left.length<left.length:=Nat.mod_lt _ (by omega);rw[List.getElem?_eq_getElem c];dsimp only;refine(Hb b a (k+1) _ _ (by rw[List.length_eraseIdx_of_lt c];omega)).trans ?_;rw[Array.toList_push,List.append_assoc];exact(AQ left _ _ (List.getElem?_eq_getElem c)).append_left _
def CS(a:Nat->Nat)(xs:Array b):(pickOrder a xs).toList.Perm xs.toList:=by
 unfold pickOrder;exact Hb a xs.size 0 xs.toList #[] (by simp)
def II(a:Nat->Nat)(xs:Array b):(pickOrder a xs).size=xs.size:=by
 rw[<- WL,(CS a xs).length_eq,WL]
end HW
namespace HW
noncomputable def tJ(a:List Int)(k:Int):List Int:=if a.any (·==k) then a else a++[k]
def zM(xs:List Int):List Int:=xs.foldl tJ []
def Jh(x:Int):List Int->List Int
 | []=>[x]
 | y::r=>if x<=y then x::y::r else y::Jh x r
def sG:List Int->List Int
 | []=>[]
 | x::r=>Jh x (sG r)
def intsOf:LD->V3 (List Int)
 | []=>some []
 | d::r=>(nI d).bind λi=>(intsOf r).map (i::·)
def TC(l:LD):OD:=v9 (λx=>(lI x).bind λds=>(intsOf ds).bind λa=>if a.length<=4 then some (.lst ((sG (zM a)).map .int)) else none) l
theorem yM(x:Int):∀l:List Int,(Jh x l).Perm (x::l)
 | []=>.refl _
 | y::r=>by
  unfold Jh;split
  ·exact .refl _
  ·exact((yM x r).cons y).trans (.swap _ _ _)
theorem su:∀l:List Int,(sG l).Perm l
 | []=>.refl _
 | x::r=>(yM x _).trans ((su r).cons x)
theorem AG(x:Int):∀l:List Int,l.Pairwise (·<=·)->(Jh x l).Pairwise (·<=·)
 | [],_=>List.pairwise_singleton _ _
 | y::r,h=>by
  unfold Jh;have h1:∀{z},z∈r->y<=z:=λhz=>List.rel_of_pairwise_cons h hz
  split
  ·rename_i a
   refine List.Pairwise.cons (λz hz=>?_) h;rcases Wo.mp hz with e | e
   ·rw[e];exact a
   ·exact Int.le_trans a (h1 e)
  ·rename_i a
   refine List.Pairwise.cons (λz hz=>?_) (AG x r h.of_cons);rcases Wo.mp ((yM x r).mem_iff.mp hz) with e | e
   ·rw[e];omega
   ·exact h1 e
theorem uK:∀l:List Int,(sG l).Pairwise (·<=·)
 | []=>.nil
 | x::r=>AG x _ (uK r)
def iL(f:c.Perm d)(e:c.Pairwise (·<=·)):c=sG d:=
 List.Perm.eq_of_pairwise (λ_ _ _ _ a b=>Int.le_antisymm a b) e (uK d) (f.trans (su d).symm)
theorem x9:∀(xs a:List Int),(xs.foldl tJ a).length<=a.length+xs.length
 | [],a=>Wl _
 | x::r,a=>by
  refine WD (x9 r (tJ a x)) ?_
  have:(tJ a x).length<=a.length+1:=by
   unfold tJ;split
   ·omega
   ·simp
  rw[WH];omega
def uS(i:Nat)(s:R->V3 Bool)(f:R->V3 LD)(w:R->LD->V3 Out):R->LD->V3 Out:=λρ ds=>(s ρ).bind λb =>
 if b then (f ρ).bind λes=>if ρ.length=i/\es.length<=1000 then w ρ es else none else w ρ ds
end HW
namespace HW
open PySem
def RJ:V5->Int
 | .int n _=>n
 | _=>0
def wm(b:Bool)(h:WK)(S:V_)(ks:List Int):Prop:=
 ∃o es a t,h.get? S=some o/\o.ExactSet/\o.data=.set es a t/\(∀e∈es.toList,∃k tk,e=(hashInt k,Value.int k tk))/\TI t es.size/\t.led=b/\(es.toList.map λe=>RJ e.2).Perm ks
def wm.at(x:wm b h S ks)(e:∀o,h.get? S=some o->h'.get? S=some o):wm b h' S ks:=let ⟨o,es,c,t,a,r⟩:=x;⟨o,es,c,t,e _ a,r⟩
theorem Eu(k:Int):∀l:List (Int×V5),(∀e∈l,∃k tk,e=(hashInt k,Value.int k tk))->(l.findIdx? λe=>Value.isInt k e.2).isSome=(l.map λe=>RJ e.2).any (·==k)
 | [],_=>rfl
 | e::l,h=>by
  obtain⟨a,tk,rfl⟩:=h e (.head _);rw[List.findIdx?_cons,Ww,List.any_cons]
  have c:Value.isInt k (Value.int a tk)=(a==k):=by
   unfold Value.isInt;simp[BEq.comm]
  show(if Value.isInt k (Value.int a tk)=true then some 0 else _).isSome=((a==k)||_);rw[c];cases (a==k) with
  | true=>rfl
  | false =>
   rw[Wu We,Option.isSome_map,Bool.false_or];exact Eu k l λe b=>h e (.tail _ b)
def KU{l a:List Int}(p:l.Perm a)(k:Int):l.any (·==k)=a.any (·==k):=p.any_eq
section
variable{prog:Wr}{w:WC}{A:WM}{E:V5->V7->Prop}{s:V7}
def Jm{k:Int}(P:wm b s.heap S ks)(U:ks.length<=3)
  (h:∀r h',Heap.SameBut S s.heap h'->wm b h' S (tJ ks k)->Q r {s with heap:=h' }) :
  wpAny (model prog w) A (setAddHashed S (.int k tk) ((intKind prog w).hash k)) Q E s:=by
 obtain⟨o,es,G,t,u,y,hd,f,hT,g,z⟩:=P;have J:es.size=ks.length:=by rw[<- z.length_eq,V9,WL]
 have K:t.fits es.size=true:=hT.fits (by omega);have v:=intKind_is prog w k tk
 have L:ElemsOf (intKind prog w) es.toList:=λe F=>by
  obtain⟨H,B,rfl⟩:=f e F;exact⟨⟨H,intKind_is prog w H B,rfl⟩,rfl⟩
 have O:es.size<scanBound:=by unfold scanBound;omega
 unfold setAddHashed setAddHashedIn;refine wpAny_holding (V4 (wpAny_setState_of u hd K ?_));dsimp only;rw[byScan_of (knd:=intKind prog w) rfl O L];simp only[↓reduceIte];unfold setAddByScan;refine V4 ?_;refine V4 (wpAny_rule ?_);refine V4 (wpAny_setScan_of v u hd K L ?_);have c:=Eu k es.toList f;rw[KU z] at c;cases I:List.findIdx? (λe=>(intKind prog w).is k e.2) es.toList with
 | some j =>
  dsimp only;have l:(List.findIdx? (λe=>Value.isInt k e.2) es.toList)=some j:=I;rw[l] at c;have i:tJ ks k=ks:=by unfold tJ;rw[<- c];rfl
  refine V8 (V8 ?_);exact h false s.heap (Heap.SameBut.refl S s.heap) ⟨o,es,G,t,u,y,hd,f,hT,g,by rw[i];exact z⟩
 | none =>
  dsimp only;have l:(List.findIdx? (λe=>Value.isInt k e.2) es.toList)=none:=I;rw[l] at c;have i:tJ ks k=ks++[k]:=by unfold tJ;rw[<- c];rfl
  obtain⟨p,t',C,T,n,m,N⟩:=D1 hT (by omega) ((intKind prog w).hash k) (.int k tk);have d:=SetTable.insertAt_perm es p ((intKind prog w).hash k,Value.int k tk);have hsz:(SetTable.insertAt es p ((intKind prog w).hash k,Value.int k tk)).size=es.size+1:=tU _ _ _ C;rw[T];generalize SetTable.insertAt es p ((intKind prog w).hash k,Value.int k tk)=es' at *
  dsimp only;refine V4 (wpAny_of_eq (a:=()) rfl ?_);rw[Wc n.plain];refine V4 ?_;rw[hashByValue_scannable 8 (x:=Value.int k tk) rfl];refine V8 ?_;show wpAny _ _ (storeSet S es' t' >>= λ_=>_) _ _ _;refine V4 (wpAny_storeSet_of u hd ?_ (by rw[sizeLine_eq];omega));show wpAny _ _ (if (!false&&t'.tooFull)=true then _ else _) _ _ _;rw[N5 n (by omega)];refine V8 (V8 ?_)
  have M:(s.heap.update S (Obj.putSet es' t')).get? S=some {o with data:=.set es' (G+1) t' }:=by
   have:=WX (Obj.putSet es' t') u (by rw[putSet_of es' t' hd];rfl);rw[putSet_of es' t' hd] at this;exact this
  refine h true _ (Heap.SameBut.update s.heap S (Obj.putSet es' t')) ⟨_,es',G+1,t',M,y,rfl,λe F=>?_,n,m.trans g,?_⟩
  ·have:=d.mem_iff.mp F
   rw[Array.toList_push] at this;rcases WY.mp this with q | q
   ·exact f e q
   ·exact⟨k,tk,Wh.mp q⟩
  ·rw[i]
   refine(d.map _).trans ?_;rw[Array.toList_push,Xb];exact z.append_right _
end
end HW
namespace HW
open PySem PySem.Spec PyProof.Rows
def sy:Slot "set_iterator" "__next__" "set_iterator.__next__" :=
 .of (owner:="set_iterator") (n:="__next__") (by rw[typeLookup_type,builtinLookup_eq_fast];kernel_rfl) (by decide +kernel) (by decide +kernel) (by decide +kernel)
  (by first | exact .inl (by decide +kernel) | exact .inr (by decide +kernel)) (by rw[isSubtype_type];kernel_rfl)
def w8:entryFor table "set_iterator.__next__" = some Builtin.«set_iterator.__next__»:=entryFor_of_tree (by kernel_rfl)
def xQ(a:V5):argsOk "set_iterator.__next__" ⟨[a],[]⟩:=by unfold argsOk;kernel_rfl
def yq:Slot "set_iterator" "__iter__" "set_iterator.__iter__" :=
 .of (owner:="set_iterator") (n:="__iter__") (by rw[typeLookup_type,builtinLookup_eq_fast];kernel_rfl) (by decide +kernel) (by decide +kernel) (by decide +kernel)
  (by first | exact .inl (by decide +kernel) | exact .inr (by decide +kernel)) (by rw[isSubtype_type];kernel_rfl)
def BH:entryFor table "set_iterator.__iter__" = some Builtin.«dict_keyiterator.__iter__»:=
 entryFor_alias (id':="dict_keyiterator.__iter__") (by kernel_rfl) rfl (by decide +kernel) (by kernel_rfl)
def De(a:V5):argsOk "set_iterator.__iter__" ⟨[a],[]⟩:=by unfold argsOk;kernel_rfl
def Dj:entryFor table "set.__iter__" = some Builtin.«frozenset.__iter__»:=
 entryFor_alias (id':="frozenset.__iter__") (by kernel_rfl) rfl (by decide +kernel) (by kernel_rfl)
def tV(h:WK)(it S:V_)(slot i n a:Nat):Prop:=∃o,h.get? it=some o/\o.cls=.type "set_iterator" /\ o.data=.fields #[.int slot 0,.int i 0,.ref S,.int n 0,.int a 0]
def ui(h:WK)(S:V_)(es:Array (Int×V5))(a:Nat)(t:SetTable):Prop:=∃o,h.get? S=some o/\o.cls=.type "set" /\ o.data=.set es a t
def slotAt(t:SetTable):Nat->Nat
 | 0=>0
 | i+1=>t.place.getD i 0+1
def sX(w:WC):Bool:=w.params.followText "set-order"
structure xG (w:WC) (S:V_) (es:Array (Int×V5)) (ep:Nat) (t:SetTable) (ord:Array (Int×V5)):Prop where
 fits:t.fits es.size=true
 size:ord.size=es.size
 txt:sX w=true->ord=pickOrder (w.params.setOrder S ep) es
 plc:sX w=false->ord=es/\t.led=true/\(!t.plain&&decide (es.size > 1))=false/\∀i,i<=es.size->SetTable.below t.place (slotAt t i)=i
def tV.typeIs{s:V7}{it S slot i n ep}(x:tV s.heap it S slot i n ep):s.TypeIs (.ref it) "set_iterator":=let ⟨o,a,b,_⟩:=x;⟨o,a,b⟩
def ui.typeIs{s:V7}{S es ep t}(x:ui s.heap S es ep t):s.TypeIs (.ref S) "set":=let ⟨o,a,b,_⟩:=x;⟨o,a,b⟩
def ui.at{S es ep t}(x:ui h S es ep t)(e:∀o,h.get? S=some o->h'.get? S=some o):ui h' S es ep t:=let ⟨o,a,r⟩:=x;⟨o,e _ a,r⟩
def tV.at{it S slot i n ep}(x:tV h it S slot i n ep)(e:∀o,h.get? it=some o->h'.get? it=some o):tV h' it S slot i n ep:=let ⟨o,a,r⟩:=x;⟨o,e _ a,r⟩
def ui.lt{S es ep t}(x:ui h S es ep t):S<h.objs.size:=let ⟨_,a,_⟩:=x;Wp a
section
variable{prog:Wr}{w:WC}{A:WM}{E:V5->V7->Prop}{s:V7}{S:V_}{es ord:Array (Int×V5)}{ep:Nat}{t:SetTable}
def eW(x:ui s.heap S es ep t)(b:t.fits es.size=true)(h:Q (es,ep,t) s):wpAny (model prog w) A (setState S) Q E s:=by
 obtain⟨o,a,c,hd⟩:=x;exact wpAny_setState_of a hd b h
def jh(x:ui s.heap S es ep t)(b:t.fits es.size=true)(h:Q es s):wpAny (model prog w) A (setEntries S) Q E s:=by
 obtain⟨o,a,c,hd⟩:=x;exact wpAny_setEntries_of a hd b h
def ph(h:Q (sX w) s):wpAny (model prog w) A setsByText Q E s:=by
 unfold setsByText;exact V4 (wpAny_askSetting (V8 h))
def pw(x:ui s.heap S es ep t)(hO:xG w S es ep t ord)
  (h:Q (.ref s.heap.objs.size) {s with heap:=s.heap.push {cls:=.type "set_iterator",data:=.fields #[.int 0 0,.int 0 0,.ref S,.int es.size 0,.int ep 0]} }):wpAny (model prog w) A (pyIter (.ref S)) Q E s:=by
 refine wpAny_pyIter_slot x.typeIs F.slot_set_iter (wpAny_call_entry F.slot_set_iter x.typeIs Dj ?_ (F.args_set_iter_1 _));unfold Builtin.«frozenset.__iter__»;refine V4 (m:=Builtin.Frozenset.slot0 "__iter__" ⟨[.ref S],[]⟩) (wpAny_of_eq (a:=S) rfl ?_);refine V4 ?_;unfold Builtin.Frozenset.sizeOf;refine V4 (jh x hO.fits (V8 ?_));refine V4 ?_
 have hd:∀{b:Bool->V7->Prop},b false s->wpAny (model prog w) A.in1 (setDrawn S) b E s:=λc=>by
  unfold setDrawn;refine V4 (eW x hO.fits (V4 (ph (V8 ?_))))
  have z:(!sX w&&(!t.plain&&decide (es.size > 1)))=false:=by
   cases d:sX w with
   | true=>rfl
   | false=>rw[(hO.plc d).2.2.1];rfl
  show _;exact z ▸ c
 refine hd ?_;dsimp only;rw[Wu We];refine V4 (V8 ?_);refine V4 ?_;unfold setEpoch;refine V4 (eW x hO.fits (V8 ?_));refine V4 (WO (V8 ⟨_,rfl,"set_iterator",_,⟨_,Wf _ rfl,rfl⟩,sy.lookup,?_⟩));exact h
def nextOf(ord:Array (Int×V5))(i nx:Nat):V3 (V5×Nat):=(ord[i]?).map λe=>(e.2,nx)
def fR{slot i:Nat}(x:ui s.heap S es ep t)(hO:xG w S es ep t ord)(e:sX w=false->slot=slotAt t i)(g:i<=es.size)
  (h:∀nx,(sX w=false->nx=slotAt t (i+1))->Q (nextOf ord i nx) s):wpAny (model prog w) A (setNext S slot i ep) Q E s:=by
 unfold setNext;refine V4 (eW x hO.fits ?_);dsimp only;refine V4 (ph ?_);cases c:sX w with
 | true =>
  rw[Wc rfl,Wu (by simp)];refine V4 ?_;unfold setWalk;refine V4 (eW x hO.fits ?_);dsimp only;refine V4 (ph ?_);rw[c,Wc rfl];refine V4 (wpAny_askSetting (V8 (V8 ?_)));have:=h slot (λz=>by rw[c] at z;cases z);rw[hO.txt c] at this;exact this
 | false =>
  obtain⟨d,l,k,j⟩:=hO.plc c;rw[Wu We];show wpAny _ _ (if (!t.plain&&decide (es.size > 1))=true then _ else _) _ _ _;rw[k,Wu We];show wpAny _ _ ((if (!t.led&&!es.isEmpty)=true then _ else _) >>= _) _ _ _;rw[l,Wu (by simp)];refine V4 (V8 (V8 ?_));rw[e c,j i g,<- d]
  have f:t.place.size=es.size:=by
   have:=hO.fits;simp only[SetTable.fits,Wj,Xt] at this;exact this.1
  by_cases a:i<es.size
  ·have:=h (t.place.getD i 0+1) (λ_=>rfl)
   unfold nextOf at this;rw[d] at this ⊢;have b:i<t.place.size:=by rw[f];exact a
   rw[Xa a,Xa b];rw[Xa a] at this;simp only[Array.getD_eq_getD_getElem?,Xa b,Option.getD_some,Option.map_some] at this;exact this
  ·have:=h (slotAt t (i+1)) (λ_=>rfl)
   unfold nextOf at this;rw[d] at this ⊢;rw[Array.getElem?_eq_none (Nat.le_of_not_lt a)] at this ⊢;exact this
def pF{slot i:Nat}(d:tV s.heap it S slot i es.size ep)(B:S≠it)(x:ui s.heap S es ep t)(hO:xG w S es ep t ord)(z:sX w=false->slot=slotAt t i)(r:i<ord.size)
  (F:∀nx h',(sX w=false->nx=slotAt t (i+1))->tV h' it S nx (i+1) es.size ep->Heap.ExtBut it s.heap h'->Q (some ord[i].2) {s with heap:=h' }):wpAny (model prog w) A (pyNext (.ref it)) Q E s:=by
 obtain⟨o,l,C,hd⟩:=id d;unfold pyNext
 refine V4 (wpAny_attempt (wpAny_callSpecial?_slot (name:=oS "__next__") d.typeIs sy
  (wpAny_call_entry sy d.typeIs w8 ?_ (xQ _))))
 unfold Builtin.«set_iterator.__next__»;refine V4 (m:=slotArgs "__next__" 0 ⟨[.ref it],[]⟩) (wpAny_of_eq (a:=(.ref it,[])) rfl ?_);refine V4 (wpAny_fieldsOf l hd ?_);dsimp only;refine V4 (jh x hO.fits ?_);rw[Wu (by simp)];have p:i<=es.size:=by rw[<- hO.size];exact Nat.le_of_lt r
 show wpAny _ _ (setNext S slot i ep >>= _) _ _ _;refine V4 (fR x hO z p λnx n=>?_);rw[nextOf,Xa r];simp only[Option.map_some];refine V4 (wpAny_setField l hd (by simp) ?_);generalize h:s.heap.update it (Obj.mapFields (·.setIfInBounds 0 (rawInt nx)))=H1
 have c:∃j,H1.get? it=some j/\j.cls=.type "set_iterator" /\ j.data=.fields #[.int nx 0,.int i 0,.ref S,.int es.size 0,.int ep 0]:=by
  subst h;exact⟨_,WX _ l (Obj.isFreed_of_fields (Obj.data_mapFields hd _)),(Obj.cls_mapFields ..).trans C,by rw[Obj.data_mapFields hd];simp[rawInt]⟩
 obtain⟨j,c,q,f⟩:=c;refine V4 (wpAny_setField (s:={s with heap:=H1}) c f (by simp) ?_);generalize g:H1.update it (Obj.mapFields (·.setIfInBounds 1 (rawInt ((i:Int)+1))))=H2
 have k:tV H2 it S nx (i+1) es.size ep:=by
  subst g;exact⟨_,WX _ c (Obj.isFreed_of_fields (Obj.data_mapFields f _)),(Obj.cls_mapFields ..).trans q,by rw[Obj.data_mapFields f];simp[rawInt]⟩
 have y:Heap.ExtBut it s.heap H2:=λb u v e=>by
  subst g;subst h;exact(WF _ _ (Ne.symm v)).trans ((WF _ _ (Ne.symm v)).trans e)
 exact V8 ⟨_,rfl,V8 (F nx H2 n k y)⟩
def qG{slot i:Nat}(k:A.handled=none)(c:tV s.heap it S slot i es.size ep)(j:S≠it)(x:ui s.heap S es ep t)(hO:xG w S es ep t ord)(g:sX w=false->slot=slotAt t i)(f:i=ord.size)
  (l:∀h',Heap.ExtBut it s.heap h'->Q none {s with heap:=h' }):wpAny (model prog w) A (pyNext (.ref it)) Q E s:=by
 obtain⟨o,e,n,hd⟩:=id c;unfold pyNext
 refine V4 (wpAny_attempt (wpAny_callSpecial?_slot (name:=oS "__next__") c.typeIs sy
  (wpAny_call_entry sy c.typeIs w8 ?_ (xQ _))))
 unfold Builtin.«set_iterator.__next__»;refine V4 (m:=slotArgs "__next__" 0 ⟨[.ref it],[]⟩) (wpAny_of_eq (a:=(.ref it,[])) rfl ?_);refine V4 (wpAny_fieldsOf e hd ?_);dsimp only;refine V4 (jh x hO.fits ?_);rw[Wu (by simp)];have d:i<=es.size:=by rw[<- hO.size,f];exact Wl _
 show wpAny _ _ (setNext S slot i ep >>= _) _ _ _;refine V4 (fR x hO g d λnx h=>?_);rw[nextOf,Array.getElem?_eq_none (by rw[f];exact Wl _)];simp only[Option.map_none];refine V4 (wpAny_setField e hd (by simp) ?_);show wpAny _ _ (newExc (.type "StopIteration") [] >>= _) _ _ _;refine V4 ?_;simp only[newExc,newTuple];refine V4 (WO ?_ (by size_fits));refine V4 (m:=firstArgMember _ _) (wpAny_of_eq (a:=Value.none) (by first | rfl | (simp only[firstArgMember];rfl)) ?_);refine WO ?_ (by size_fits);unfold raiseNew;refine V4 (wpAny_handled ?_);rw[show A.in1.handled=none from k];refine V4 (V8 (wpAny_throw ?_));refine V4 (wpAny_isInstance (T:="StopIteration") (b:=true) ⟨_,Wf _ rfl,rfl⟩ isSubtype_stop ?_);exact V8 (l _ (((Heap.SameBut.update ..).extBut.push _).push _))
def I9(r:A.handled=none)(I:V_)(d:S≠I)(hO:xG w S es ep t ord) :
  Walks prog w A I [I,S] [I] ord.size (λi v=>∃e,ord[i]?=some e/\v=e.2) (λi h=>(∃slot,tV h I S slot i es.size ep/\(sX w=false->slot=slotAt t i))/\ui h S es ep t) where
 sub:=λb f=>by simp at f;simp[f]
 frame:=λ_ _ _ st p=>⟨let ⟨l,a,b⟩:=st.1;⟨l,a.at λo e=>p I (by simp) o e,b⟩,st.2.at λo e=>p S (by simp) o e⟩
 item:=λi s Q E q st k=>by
  obtain⟨⟨l,a,b⟩,c⟩:=st;refine pF a d c hO b q λnx h' m j g=>?_
  exact k _ h' s.toks ⟨ord[i],by simp[q],rfl⟩ ⟨⟨nx,j,m⟩,c.at λo e=>g S o d e⟩ λb o f e=>g b o (λh=>f (by simp[h])) e
 done:=λs Q E st k=>by
  obtain⟨⟨l,a,b⟩,c⟩:=st;exact qG r a d c hO b rfl λh' n=>k h' s.toks λb o f e=>n b o (λh=>f (by simp[h])) e
 self:=λ_ s Q E st k=>by
  obtain⟨⟨l,a,b⟩,c⟩:=st;refine wpAny_pyIter_slot a.typeIs yq (wpAny_call_entry yq a.typeIs BH ?_ (De _));show wpAny _ _ (ret (.ref I)) _ _ s;exact V8 ⟨_,rfl,"set_iterator",_,a.typeIs,sy.lookup,k⟩
def LU(hT:s.TypeIs (.ref S) "set")(h:Q false s):wpAny (model prog w) A (Builtin.List.listLengthHint (.ref S)) Q E s:=by
 unfold Builtin.List.listLengthHint;refine V4 (wpAny_specialOf hT PySem.F.slot_set_len.lookup ?_);generalize K_:("set.__len__" : String)=id0
 wp_delta
 rw[show splitId id0=some ("set","__len__") from by subst K_;decide +kernel];subst K_;refine V4 (wpAny_isInstance (T:="set") (b:=true) hT (by rw[isSubtype_type];kernel_rfl) ?_);refine wpAny_ite_split (λa=>Wz a (by decide)) (λ_=>?_);refine wpAny_ite_split (λ_=>?_) (λa=>Wz (by decide +kernel) a);refine V4 (wpAny_typeOf hT ?_);exact V8 h
def mK(hO:xG w S es ep t ord):W.KdlSrc prog w "set" S S ord.size (λi v=>∃e,ord[i]?=some e/\v=e.2) (λh=>ui h S es ep t) where
 type:=λ_ a=>a.typeIs
 there:=λ_ a=>⟨a.lt,a.lt⟩
 keep:=λ_ _ a c=>a.at λo e=>c S (.inl rfl) o e
 notList:=by decide
 notTuple:=by decide
 hint:=λ_ _ _ _ a b=>LU a.typeIs b
 iter:=λ_ _ d a=>⟨_,_,(λ_ _ b=>pw a hO b),I9 d _ (WA a.lt) hO,⟨⟨0,⟨_,Wf _ rfl,rfl,rfl⟩,λ_=>rfl⟩,a.at λo e=>V6 _ e⟩⟩
end
set_option maxHeartbeats 3200000
def yb(val:Nat->Int)(i:Nat):List Int:=((List.range i).map val).foldl tJ []
def IU(val:Nat->Int)(i:Nat):yb val (i+1)=tJ (yb val i) (val i):=by
 unfold yb;rw[List.range_succ,Xb,List.foldl_append];rfl
def LM(val:Nat->Int)(i:Nat):(yb val i).length<=i:=by
 have:=x9 ((List.range i).map val) [];unfold yb;simpa using this
section
variable{prog:Wr}{w:WC}{A:WM}{R:Result->V7->Prop}{I:V_}{fp wr:List V_}{G:Array GenState->Array GenState->Prop}{n:Nat}{P:Nat->V5->Prop}{St:Nat->V7->Prop}
def mt(W:WalksS prog w A.in1 I fp wr G n P St)(S:V_)(y:S∉fp)
  (val:Nat->Int) (j:∀i v,P i v->∃t,v=.int (val i) t) (g:n<=4) :
  ∀(k i:Nat) (s:V7),n - i=k->i<=n->St i s->wm b s.heap S (yb val i) ->
   (∀a,Moved (S::wr) G s a->wm b a.heap S (yb val n)->R (.ok (.ret .none)) a) ->
   codeAny (model prog w) A (.builtin "set.update.loop" ⟨[.ref S,.ref I],[]⟩) R s:=by
 have x:S∉wr:=λh=>y (W.sub _ h)
 have c:∀b∈wr,b∈S::wr:=λb g=>Wt _ g
 intro k
 induction k with
 | zero =>
  intro i s N O d L M;have E:i=n:=by omega
  subst E;refine WR F.entry_set_update_loop ?_;rw[Around.under_plainId F.plain_set_update_loop _];show wpAny _ A.in1 (pyNext (.ref I) >>= _) _ _ s;refine V4 (W.done s _ _ d λa q=>?_);show wpAny _ A.in1 (ret Value.none) _ _ a;exact V8 (M a (q.mono c) (L.at λo C=>q.heap S _ x C))
 | succ k ih =>
  intro i s N O d L M;have u:i<n:=by omega
  refine WR F.entry_set_update_loop ?_;rw[Around.under_plainId F.plain_set_update_loop _];show wpAny _ A.in1 (pyNext (.ref I) >>= _) _ _ s;refine V4 (W.item i s _ _ u d λv a Q l q=>?_);obtain⟨t,rfl⟩:=j i v Q;have K:wm b a.heap S (yb val i):=L.at λo C=>q.heap S _ x C
  show wpAny _ A.in1 (holding [Value.int (val i) t] (setAdd S (.int (val i) t)) >>= _) _ _ a;refine V4 (wpAny_holding ?_);unfold setAdd;refine wpAny_holding ?_;refine V4 ((intKind prog w).pyHash (k:=val i) (intKind_is _ _ _ _) ?_);have f:(yb val i).length<=3:=by have:=LM val i;omega
  refine Jm (s:={a with toks:=a.toks+1}) K f λr h' m J=>?_
  have H:wm b h' S (yb val (i+1)):=by rw[IU];exact J
  refine V8 ⟨plainId_quiet F.plain_set_update_loop _,ih (i+1) _ (by omega) u (W.frame _ a _ _ l (Nat.le_succ _) λb g o e=>?_) H λB p z=>?_⟩
  ·rw[m.2 b (λh:b=S=>y (by rw[<- h];exact g))];exact e
  ·refine M B (Moved.trans W.gtrans ((q.mono c).then_heap (Nat.le_succ _) λb o g e=>?_) p) z
   rw[m.2 b (λh:b=S=>g (by rw[h];exact Ws))];exact e
end
section
variable{prog:Wr}{w:WC}{A:WM}{E:V5->V7->Prop}{s:V7}
abbrev ug(w:WC):Obj:={cls:=.type "set",dict:=none,data:=.set #[] 0 (.fresh 0 0 (!sX w))}
def Nh(a:V5)
  (h:Q₁ (.ref s.heap.objs.size) {s with heap:=s.heap.push (ug w)}) :
  codeAny (model prog w) A (.call (.builtin "set.__new__") ⟨[.type "set",a],[]⟩) (wants Q₁ E) s:=by
 refine codeAny_of_tree ?_;show wpAny _ A.in1 (do checkBuiltinCall "set.__new__" ⟨[.type "set",a],[]⟩;again (.builtin "set.__new__" ⟨[.type "set",a],[]⟩)) _ _ s;refine V4 (wpAny_of_eq (PySem.F.newCall_set_1 a) (V8 ⟨plainId_quiet PySem.F.plain_set_new _,WR PySem.F.entry_set_new ?_⟩));rw[Around.under_plainId PySem.F.plain_set_new _];unfold Builtin.«set.__new__» Builtin.Frozenset.newClass;have b:=PySem.sub_set_self;obtain⟨c,g,d,tk,os⟩:=s;dsimp only
 wp_walk
 refine wpAny_askSetting (V8 ?_);dsimp only;simp only[newObj];refine V4 (wpAny_alloc (V8 ?_));exact V8 h
def wm.new{h:WK}{w:WC}:wm (!sX w) (h.push (ug w)) h.objs.size []:=
 ⟨ug w,#[],0,_,Wf _ rfl,⟨rfl,rfl,rfl⟩,rfl,λe a=>by simp at a,TI.fresh _,rfl,.refl _⟩
def lJ 
    (hh:A.handled=none) (hl:s.heap.IsList l a) (p:∀(i:Nat) (v:V5),a[i]?=some v->∃t,v=.int (val i) t) (G:a.size<=4)
    (h:∀(h':WK) (tk:Nat),wm (!sX w) h' s.heap.objs.size (yb val a.size) ->
      (∀b o,b<s.heap.objs.size->s.heap.get? b=some o->h'.get? b=some o)->Q (.ref s.heap.objs.size) {s with heap:=h',toks:=tk}) :
    wpAny (model prog w) A (call (.type "set") [.ref l]) Q E s:=by
  obtain⟨c,tl,hmro⟩:=PySem.F.called_set.mro;have L:=PySem.F.called_set.made;have X:=PySem.F.called_set.sub;refine wpAny_call (codeAny_of_tree ?_);show wpAny _ _ (callAny (.type "set") _) _ _ _;refine V8 ⟨Code.quiet_builtin _ (by decide +kernel),WR PySem.F.entry_type_call ?_⟩;rw[Around.under_plain (weight_type_call_type "set" [.ref l] []) rfl];have h1:=PySem.F.called_set.notType;have h2:=PySem.F.called_set.canCreate;have hct:=PySem.F.typeCall_set_1 (.ref l)
  repeat (any_goals (first | assumption | wp_step))
  refine codeAny_mono (Nh (.ref l) (E:=E) (Q₁:=λobj j=>obj=.ref s.heap.objs.size/\j={s with heap:=s.heap.push (ug w)}) ⟨rfl,rfl⟩) λr j K=>?_
  cases r with
  | error e=>exact K
  | ok fl =>
    cases fl with
    | ret obj =>
      obtain⟨rfl,rfl⟩:=K;have hS:(s.heap.push (ug w)).get? s.heap.objs.size=some (ug w):=Wf _ rfl;have hT:Shared.TypeIs {s with heap:=s.heap.push (ug w)} (.ref s.heap.objs.size) "set":=⟨_,hS,rfl⟩
      have hli:=PySem.F.called_set.init.lookup;have hbi:=PySem.F.called_set.init.bind (.ref s.heap.objs.size)
      repeat (any_goals (first | assumption | wp_step))
      refine codeAny_mono (codeAny_call_builtin (R:=wants (λr g=>r=.none/\∃ h' tk,g={s with heap:=h',toks:=tk} /\
          wm (!sX w) h' s.heap.objs.size (yb val a.size) /\
          (∀b o,b<s.heap.objs.size->s.heap.get? b=some o->h'.get? b=some o)) E) PySem.F.called_set.init.plain PySem.F.entry_set_init (PySem.check_set_init_1 hT ?_)) λn g d=>?_
      · obtain⟨ol,u,hcl,W,B⟩:=hl
        obtain⟨U,k,J,f⟩:=ol;simp only at hcl B;subst hcl;subst B;have q:(s.heap.push (ug w)).get? l=some {cls:=.type "list",dict:=k,data:=.seq a W,slots:=f}:=V6 _ u;have Y:=PySem.F.sub_list_set;have Z:=PySem.F.sub_list_frozenset;have hne:(Value.type "list" == Value.type "dict")=false:=by decide
        have z:(s.heap.push (ug w)).IsList l a:=⟨_,q,rfl,W,rfl⟩
        unfold Builtin.«set.__init__» noKeywords Builtin.Frozenset.updateFrom;generalize T:pyIter=PI
        wp_walk
        subst T;refine wpAny_pyIter_list z ?_;refine V4 (wpAny_runValue ?_);have y:l<s.heap.objs.size:=Wp u;have N:A.in1.in1.in1.handled=none:=by simp[hh]
        have x:l≠(s.heap.push (ug w)).objs.size:=by
          rw[Heap.size_push];exact WA (Nat.lt_succ_of_lt y)
        have S:s.heap.objs.size ∉ [(s.heap.push (ug w)).objs.size,l]:=by
          rw[Heap.size_push];simp only[Wo,Wh,List.not_mem_nil,or_false,not_or];exact⟨WA (Xp _),Nat.ne_of_gt y⟩
        refine mt (b:=!sX w) ((Walks.list N _ l x a).toS) s.heap.objs.size
          S val p G (a.size - 0) 0 _ (by omega) (W4 _)
          ⟨⟨_,Wf _ rfl,rfl,rfl⟩,(z.push _)⟩ ?hS0 ?hR
        case hS0=>exact wm.new.at λo e=>V6 _ e
        case hR =>
          intro s' C m;obtain⟨h',g',d',H,I⟩:=s';have eg:g'=s.gens:=C.gens;have ed:d'=s.drawn:=C.drawn;have eo:I=s.os:=C.os;subst eg;subst ed;subst eo;show wpAny _ _ _ _ _ _;refine V8 ?_;show wpAny _ _ (ret Value.none) _ _ _;refine V8 ⟨rfl,h',H,rfl,m,λb o G e=>?_⟩;have P:b≠s.heap.objs.size:=WA G
          have O:b≠(s.heap.push (ug w)).objs.size:=by
            rw[Heap.size_push];exact WA (Nat.lt_succ_of_lt G)
          exact C.heap b o (by simp only[Wo,Wh,List.not_mem_nil,or_false,not_or];exact⟨P,O⟩) (V6 _ (V6 _ e))
      · cases n with
        | error e=>exact d
        | ok fl₂ =>
          cases fl₂ with
          | ret r =>
            obtain⟨rfl,h',tk,rfl,m,M⟩:=d
            repeat (any_goals (first | assumption | wp_step))
            exact h _ _ m M
          | _=>exact d.elim
    | _=>exact K.elim
def wm.ord(x:wm (!sX w) h S ks)(y:ks.length<=4) :
  ∃es c t b,ui h S es c t/\xG w S es c t b/\(b.toList.map λe=>RJ e.2).Perm ks/\∀e∈b.toList,∃k tk,e.2=Value.int k tk:=by
 obtain⟨o,es,c,t,p,f,hd,j,hT,d,g⟩:=x;have r:es.size=ks.length:=by rw[<- g.length_eq,V9,WL]
 have u:t.fits es.size=true:=hT.fits (by omega);have a:∀e∈es.toList,∃k tk,e.2=Value.int k tk:=λe l=>let ⟨k,tk,q⟩:=j e l;⟨k,tk,by rw[q]⟩
 cases m:sX w with
 | true =>
  have n:=CS (w.params.setOrder S c) es;exact⟨es,c,t,pickOrder (w.params.setOrder S c) es,⟨o,p,f.1,hd⟩,⟨u,II _ _,λ_=>rfl,λz=>by rw[m] at z;cases z⟩,(n.map _).trans g,λe l=>a e (n.mem_iff.mp l)⟩
 | false =>
  refine⟨es,c,t,es,⟨o,p,f.1,hd⟩,⟨u,rfl,(λz=>by rw[m] at z;cases z),λ_=>⟨rfl,by rw[d,m];rfl,by rw[hT.plain];rfl,λi v=>?_⟩⟩,g,a⟩;cases i with
  | zero=>exact Ow hT.ris
  | succ i=>exact Nd hT.ris (by rw[hT.size];exact v)
theorem jO:∀{a:List V5},(∀v∈a,∃k tk,v=Value.int k tk)->IntsAre a (a.map RJ)
 | [],_=>.nil
 | v::r,h=>by
  obtain⟨k,tk,rfl⟩:=h v (.head _);exact .cons k tk (jO λu b=>h u (.tail _ b))
def IZ{c:Type}{a b:List c}(e:a.length=b.length)(h:∀(j:Nat) (v:c),a[j]?=some v->b[j]?=some v):a=b:=by
 refine List.ext_getElem? λj=>?_
 by_cases d:j<a.length
 ·rw[List.getElem?_eq_getElem d];exact(h j _ (List.getElem?_eq_getElem d)).symm
 ·rw[W8 (by omega),W8 (by omega)]
def Gz(I:A.handled=none)(x:wm (!sX w) s.heap S ks)(H:ks.length<=4)
  (h:∀(D:V_) (h':WK) (tk n:Nat) (k:List V5),S<D->(∀b o,s.heap.get? b=some o->h'.get? b=some o)->h'.get? D=some {cls:=.type "list",data:=.seq k.toArray n}->IntsAre k (sG ks)->Q (.ref D) {s with heap:=h',toks:=tk}) :
  wpAny (model prog w) A (call (.builtin "sorted") [.ref S]) Q E s:=by
 obtain⟨es,P,t,f,hI,hO,c,hint⟩:=x.ord H;have G:f.size=ks.length:=by rw[<- c.length_eq,V9,WL]
 refine Calls.call_function_entry kind_sorted plain_sorted entry_sorted (args_sorted1 _) ?_;unfold Builtin.«sorted»;refine V4 (m:=checkCount "sorted" 1 1 _) (V8 ?_);refine V4 (W.kdu_collect (A:=A.in1) (mK hO) I hI (by rw[sizeLine_eq];omega) λh' tk a B d=>?_);have z:a.toList.length=f.size:=by rw[WL];exact d.1
 have l:a.toList=f.toList.map (·.2):=by
  refine IZ (by rw[z,V9,WL]) λj v e=>?_
  obtain⟨y,h1,L⟩:=d.2 j v (by rw[<- Array.getElem?_toList];exact e);rw[Wg,Array.getElem?_toList,h1,L];rfl
 have i:IntsAre a.toList (a.toList.map RJ):=jO λv C=>by
  rw[l] at C;obtain⟨e,J,rfl⟩:=List.mem_map.mp C;exact hint e J
 have r:(a.toList.map RJ).Perm ks:=by
  rw[l,List.map_map];exact c
 refine V4 (wpAny_newList ?_ (by rw[z,sizeLine_eq];omega));have g:(h'.push (seqObj "list" a.toList.toArray 0)).get? h'.objs.size=some (seqObj "list" a.toList.toArray 0):=Wf _ rfl;refine V4 (wpAny_holding (wpAny_call_entry slot_list_sort ⟨_,g,rfl⟩ entry_list_sort (list_sort_tree g i (by rw[z];omega) λout p a1 a2 a3=>⟨_,rfl,?_⟩) (args_list_sort _)));refine V8 ⟨_,rfl,?_⟩;have u:p=sG ks:=iL (a2.trans r) a3;subst u;have K:S<h'.objs.size:=Wp (B S _ hI.choose_spec.1);obtain⟨n1,O⟩:∃n1,((h'.push (seqObj "list" a.toList.toArray 0)).update h'.objs.size (Obj.mapSeq λ_=>#[])).get? h'.objs.size=some (seqObj "list" #[] n1):=⟨_,get?_update_seq g (λ_=>#[])⟩
 have N:((((h'.push (seqObj "list" a.toList.toArray 0)).update h'.objs.size (Obj.mapSeq λ_=>#[])).push (seqObj "tuple" a.toList.toArray 0)).push (seqObj "list" #[] 0)).get? h'.objs.size=some (seqObj "list" #[] n1):=V6 _ (V6 _ O);obtain⟨q,M⟩:∃q,(sortedHeap (h'.push (seqObj "list" a.toList.toArray 0)) h'.objs.size a.toList out).get? h'.objs.size=some (seqObj "list" out q):=⟨_,get?_update_seq N (λ_=>out)⟩
 refine h h'.objs.size _ tk q out.toList K (λb o e=>?_) (by rw[M]) a1;have F:b≠h'.objs.size:=WA (Wp (B b o e));exact(WF _ _ (Ne.symm F)).trans (V6 _ (V6 _ ((WF _ _ (Ne.symm F)).trans (V6 _ (B b o e)))))
end
end HW
set_option maxHeartbeats 1000000
namespace HW
open PySem PySem.Spec PyProof.Rows L2
section
variable{X:Cx}
def bX{K:Wb}:∀{ds:LD} {b:List Int} {xs:List V} {a:List V5},intsOf ds=some b->g7 K H ds xs->qP xs a->IntsAre a b:=by
 intro ds
 induction ds with
 | nil =>
  intro b xs a e r v;cases e;cases (show xs=[] from r);cases v;exact .nil
 | cons d ds ih =>
  intro b xs a e r v;obtain⟨i,h,e⟩:=d7 e;obtain⟨ms,g,f⟩:=q8 e;subst f;obtain⟨x,j,rfl,r1,c⟩:=r;cases BX h;cases (show x=_ from r1);cases v with
  | cons v1 v2 =>
   obtain⟨t,rfl⟩:=v1;exact .cons i t (ih g c v2)
theorem bf{K:Wb}:∀{b:List Int} {a:List V5},IntsAre a b->qP (b.map V.int) a/\g7 K H (b.map D.int) (b.map V.int)
 | _,_,.nil=>⟨.nil,rfl⟩
 | _,_,.cons n t r=>⟨.cons ⟨t,rfl⟩ (bf (K:=K) (H:=H) r).1,⟨_,_,rfl,rfl,(bf r).2⟩⟩
def M3(a:List Int):yb (λi=>a.getD i 0) a.length=zM a:=by
 unfold yb zM;congr 1;refine List.ext_getElem? λj=>?_
 rw[Wg];by_cases h:j<a.length
 ·rw[List.getElem?_range h,List.getElem?_eq_getElem h];simp[h]
 ·rw[W8 (by simpa using h),W8 (by omega)];rfl
theorem gF:∀(a:List V5) (b:List Int),a.length=b.length->(∀(j:Nat) (v:V5),a[j]?=some v->∃t,v=.int (b.getD j 0) t)->IntsAre a b
 | [],[],_,_=>.nil
 | [],_::_,h,_=>by cases h
 | _::_,[],h,_=>by cases h
 | v::r,n::b,hl,h=>by
  obtain⟨t,e⟩:=h 0 v rfl;cases (show v=.int n t from e);exact .cons n t (gF r b (Nat.succ.inj hl) λj u c=>h (j+1) u c)
def Sz(e:TC l=some r):∃a,l=[.lst a]:=by
 obtain⟨x,rfl,e⟩:=tX e;obtain⟨a,e,_⟩:=d7 e;cases DK e;exact⟨_,rfl⟩
def qt(hc:X.calm=true)(hm:X.mg "sorted" = none)(B:X.mg "set" = none)(he:SE X e f)(hg:Gl X "sorted":=by rfl)(G:Gl X "set":=by rfl)(r:noStar e=true:=by rfl) :
  SE X (.Call (.Name "sorted" p) [.Call (.Name "set" p') [e] [] pos'] [] pos) (d3 TC (b8 f d4)):=by
 intro j s Y H Q I h;obtain⟨ρ,d,er,eq,q⟩:=h;obtain⟨ds,e1,W⟩:=d7 eq;have m:=ad [] X.env r;refine Call_ (aE I hg hm boot_sorted ?_);refine Calls.callWith_builtin rfl (Calls.evalArgs_plain (Calls.spliced_cons ?_));refine Call_ (aE I G B boot_set ?_);refine PyProof.Rows.callWith_type1 (rg ((aj he aD r).1 pos' j s Y H (λw N=>g6 H N/\g7 X.K N ds w) I ⟨ρ,ds,er,e1,λw N s2 r2=>⟨s2,r2⟩⟩) λus s1 h=>?_) (by rw[m]) rfl;obtain⟨w,O,t,r1,y,rp⟩:=h;have P:=t.ok.hd hc;obtain⟨es,rfl⟩:=Sz W;obtain⟨c,e3,M⟩:=d7 (show(intsOf es).bind _=some d from W);split at M
 case isFalse=>cases M
 case isTrue hn =>
 cases M;obtain⟨v,r',rfl,⟨a,xs,rfl,ha,rx⟩,rr⟩:=rp;cases (show r'=[] from rr);obtain⟨u,rfl,ru⟩:=r1.one;cases (show u=_ from ru);obtain⟨_,l,n,rv,hl,eo⟩:=t.lstM ha;have hI:=bX e3 rx rv;have g:l.length=c.length:=IntsAre.length hI;refine lJ (val:=λi=>c.getD i 0) P ⟨_,eo,rfl,n,rfl⟩ (λi v hv=>IntsAre.int_at hI i v (by simpa using hv)) (by rw[Wy,g];exact hn) λh' tk S hk=>?_
 have A:l.toArray.size=c.length:=by rw[Wy];exact g
 rw[A,M3] at S;refine Calls.spliced_nil ?_;have J:(zM c).length<=4:=WD (x9 c []) (by simpa using hn);refine Gz (s:={s1 with heap:=h',toks:=tk}) P S J λD h2 x n2 k T C F E=>?_
 obtain⟨v1,Z⟩:=bf (K:=X.K) (H:=upd O D (.lst ((sG (zM c)).map V.int))) E
 have hz:((sG (zM c)).map V.int).length<=sizeLine:=by
  rw[V9,(su _).length_eq,sizeLine_eq];omega
 have hf:O D=none:=t.hok.fresh (Nat.le_of_lt T);refine⟨.ref D,upd O D (.lst ((sG (zM c)).map V.int)),t.laid (t':=x) (λb o U=>C b o (hk b o (Wp U) U)) (Nat.le_of_lt T) ⟨hz,k,n2,v1,F⟩,rfl,?_⟩;refine q _ _ (y.trans λb u L=>?_) ⟨D,_,rfl,aa,Z⟩;rw[ac λz=>by rw[z,hf] at L;cases L];exact L
def nB(hcm:X.calm=true)(Z:X.mg "list" = none)(Y:X.mg "range" = none)(ha:SE X a f)(hb:SE X b g)(hc:SE X c h)(hg:Gl X "list":=by rfl)(hg':Gl X "range":=by rfl)(hs:noStar a=true:=by rfl)(L:noStar b=true:=by rfl)(J:noStar c=true:=by rfl) :
  PE X (.Call (.Name "list" p) [.Call (.Name "range" p') [a,b,c] [] pos'] [] pos) (λP H Q=>∃ ρ es,sh X.K H ρ P/\Dq f g h ρ=some es/\es.length<=1000/\∀(D:V_) E l,g6 H l->l D=none->g7 X.K l es E->Q (.ref D) (upd l D (.lst E))):=by
 have z3:=ad [] X.env J;have z2:=ad [c] X.env L;have z1:=ad [b,c] X.env hs;intro G s P H Q I C;obtain⟨ρ,es,er,e,hn,q⟩:=C;obtain⟨x,e1,e⟩:=d7 e;obtain⟨y,e2,e⟩:=d7 e;obtain⟨z,e3,e⟩:=d7 e;obtain⟨i,e4,e⟩:=d7 e;obtain⟨j,e5,e⟩:=d7 e;obtain⟨k,e6,e⟩:=d7 e;split at e
 case isFalse=>cases e
 case isTrue hz =>
 cases e;refine Call_ (aE I hg Z boot_list ?_);refine PyProof.Rows.callWith_type1 (Calls.spliced_cons ?_) rfl rfl;refine Call_ (aE I hg' Y boot_range ?_);refine PyProof.Rows.callWith_type1 (rg ((aj ha (aj hb (aj hc aD J) L) hs).1 pos' G s P H (λE H2=>g6 H H2/\g7 X.K H2 [x,y,z] E) I ⟨ρ,[x,y,z],er,by show(f ρ).bind _=_;rw[e1];show((g ρ).bind _).map _=_;rw[e2];show(((h ρ).bind _).map _).map _=_;rw[e3];rfl,λE H2 s2 T=>⟨s2,T⟩⟩) λus s1 C=>?_) (by rw[z1,z2,z3]) (by rw[z2,z3];rfl);obtain⟨E,l,I1,r1,S,rp⟩:=C;obtain⟨v,r,rfl,T,r3⟩:=rp;obtain⟨u,r',rfl,r4,r5⟩:=r3;obtain⟨w,B,rfl,r6,r7⟩:=r5;cases (show B=_ from r7);have O:=tM e4 T;have hu:=tM e5 r4;have hw:=tM e6 r6;subst O hu hw;obtain⟨q1,q2,q3,q4,q5,q6⟩:=hz;cases r1 with
 | cons r rr =>
  cases rr with
  | cons r' rr =>
   cases rr with
   | cons B rr =>
    cases rr;obtain⟨t,rfl⟩:=r;obtain⟨t',rfl⟩:=r';obtain⟨F,rfl⟩:=B;refine call_range_3 (by omega) ?_ (.inl (PyProof.noPylong_small (by omega)));refine Calls.spliced_nil ?_;have A:(vB i j k).length=sr i j k:=by simp[vB]
    generalize U:({cls:=.type "range",data:=.fields #[.int i t,.int j t',.int k F]}:Obj)=ob;have hR:IsRange (s1.heap.push ob) s1.heap.objs.size i j k t t' F:=by subst U;exact IsRange.new ..
    refine call_list_range (s:={s1 with heap:=s1.heap.push ob}) (n:=sr i j k) (I1.ok.hd hcm) hR (Kd q1 q2 q3 q4 q5 q6) (CK q5).symm (by rw[<- A];omega) λh' tk N c' hk M d=>?_
    have hD:s1.heap.objs.size<=(s1.heap.push ob).objs.size:=by rw[Heap.size_push];exact Nat.le_succ _
    generalize (s1.heap.push ob).objs.size=Da at M hD
    have hI:IntsAre N.toList ((List.range (sr i j k)).map λ(m:Nat)=>i+(m:Int)*k):=by
     refine gF _ _ (by rw[WL,V9,List.length_range];exact d.1) λm v O=>?_
     have Z:m<sr i j k:=by
      have:=(Wm.mp O).1;rw[WL,d.1] at this;exact this
     obtain⟨t,e⟩:=d.2 m v (by rw[<- Array.getElem?_toList];exact O);refine⟨t,e.trans ?_⟩;simp[Wn,Wg,List.getElem?_range Z]
    have W:vB i j k=((List.range (sr i j k)).map λ(m:Nat)=>i+(m:Int)*k).map D.int:=by
     unfold vB;rw[List.map_map];rfl
    obtain⟨v1,v2⟩:=bf (K:=X.K) (H:=l) hI;have hf:l Da=none:=I1.hok.fresh hD;rw[W] at q;refine⟨.ref Da,upd l Da (.lst (((List.range (sr i j k)).map λ(m:Nat)=>i+(m:Int)*k).map V.int)),I1.laid (t':=tk) (o:=.lst (((List.range (sr i j k)).map λ(m:Nat)=>i+(m:Int)*k).map V.int)) (λb o eb=>hk b o (V6 _ eb)) hD ⟨?_,N.toList,c',v1,by rw[M]⟩,rfl,q Da _ l S hf v2⟩;rw[V9,V9,List.length_range,<- A,sizeLine_eq];omega
variable{sts:List Xi}
def kY(i:Nat)(hcm:X.calm=true)(hm:X.mg "list" = none)(hm':X.mg "range" = none)(hN:X.N.Nodup)
  (hc:ST X c s) (ha:SE X Y f) (G:SE X W g) (hd:SE X U h) (T:OB X sts w) (hix:X.N[i]?=some x:=by rfl) (hx:Loc X.env.scope x:=by first | exact Or.inl rfl | exact Or.inr rfl) (hg:Gl X "list":=by rfl) (hg':Gl X "range":=by rfl)
  (hsa:noStar Y=true:=by rfl) (hsb:noStar W=true:=by rfl) (hsc:noStar U=true:=by rfl)
  (hs:swapsWith (.Call (.Name "list" p1) [.Call (.Name "range" p2) [Y,W,U] [] B] [] C) (some (.Name x px)) pos.line X.env=pure false:=by rfl) (L:X.fn x=true\/X.env.scope.names.lookup x=some .local:=by first | exact .inl rfl | exact .inr rfl) :
  OB X (.If c [.Assign [.Name x px] (.Call (.Name "list" p1) [.Call (.Name "range" p2) [Y,W,U] [] B] [] C) pos] [] pos'::sts) (uS i s (Dq f g h) w):=by
 intro l st O H E I hz_;obtain⟨ρ,τ,a,ds,xs,o,J,ho,rp,e,qq⟩:=hz_;obtain⟨b,eb1,e⟩:=d7 e
 refine wpAny_execs_cons (rg ((jU hc (bK (cR (i:=i) hN hix hx (nB (p:=p1) (p':=p2) (pos:=C) (pos':=B) hcm hm hm' ha G hd hg hg' hsa hsb hsc) hs L)) Ab) l st O H
  {E with nx:=λy M=>(b=false/\y=O/\g6 H M)\/(b=true/\∃m n es t,Dq f g h ρ=some es/\y=O.set i (some (.ref m))/\M=upd t m (.lst n)/\t m=none/\g6 H t/\g7 X.K t es n)} I ?_) λfl s1 q=>?_)
 ·refine⟨ρ,b,J.1,eb1,λt s1=>?_⟩
  cases b with
  | false=>rw[Wu We];exact .inl ⟨rfl,rfl,s1⟩
  | true =>
   rw[Wc rfl] at e ⊢;obtain⟨es,Z,e⟩:=d7 e;split at e
   ·rename_i hz
    exact⟨ρ,es,J.1.mono s1,Z,hz.2,λD n r s2 L rr=>.inr ⟨rfl,D,n,es,r,Z,rfl,rfl,L,s1.trans s2,rr⟩⟩
   ·cases e
 cases fl with
 | next =>
  obtain⟨y,M,I',q | q⟩:=q
  ·obtain⟨rfl,rfl,s1⟩:=q
   rw[Wu We] at e;exact T l _ _ M E I' ⟨ρ,τ,a,ds,xs,o,J.mono s1,s1 _ _ ho,rp.mono s1,e,λr k=>qq r ((sj.of s1).trans k)⟩
  ·obtain⟨rfl,m,n,es,t,Z,rfl,rfl,L,P,r1⟩:=q
   rw[Wc rfl,Z] at e;simp only[Wa] at e;split at e
   case isFalse=>cases e
   case isTrue hz =>
   have I2:=AD I' aa;generalize S:upd (upd t m (.lst n)) m (uw m n)=r at I2
   have k12:sj m t r:=by
    subst S;exact sj.upd.trans sj.upd
   have A:g6 t r:=λb u G=>k12 b u (λz=>by rw[z,L] at G;cases G) G
   have ho2:r m=some (uw m n):=by subst S;exact aa
   have Q:i<O.length:=by
    have:=(Wm.mp (ft J)).1;rw[<- hz.1];exact this
   have r2:g7 X.K r es n:=r1.mono A;refine T l _ _ r E I2 ⟨ρ,τ,m,es,n,o,⟨⟨?_,λj d hd=>?_⟩,?_⟩,ho2,r2,e,λM k=>qq M λb u hne G=>?_⟩
   ·rw[Xc];exact J.1.1
   ·have hj:j<i:=by
     rw[<- hz.1];exact(Wm.mp hd).1
    obtain⟨v,h1,T⟩:=J.1.2 j d hd;exact⟨v,by rw[W7 (by omega)];exact h1,(T.mono P).mono A⟩
   ·have hd:O.drop i=some (.ref a)::τ:=by rw[<- hz.1];exact J.2
    rw[hz.1,W6 (by simpa using Q)];congr 1
    ·simp
    ·rw[List.drop_set_of_lt (by omega),<- List.drop_drop,hd];rfl
   ·have F:=P _ _ G
    exact k b u (λz=>by rw[z,L] at F;cases F) (A _ _ F)
 | brk=>exact q
 | cont=>exact q
 | ret v=>exact q
end
section
variable{prog:Wr}{w:WC}{A:WM}{R':Result->V7->Prop}{I:V_}{fp wr:List V_}{n:Nat}{P:Nat->V5->Prop}{St:Nat->WK->Prop}
def vQ:(toString "min" ++ toString ".loop" : String) = "min.loop":=by decide
end
section
variable{prog:Wr}{w:WC}{A:WM}{E:V5->V7->Prop}{s:V7}
end
section
variable{X:Cx}
end
end HW
namespace HW
end HW
namespace HW
open PySem PySem.Spec PyProof.Rows L2
section
variable{prog:Wr}{w:WC}{A:WM}{E:V5->V7->Prop}{s:V7}
end
section
variable{X:Cx}
end
end HW
namespace HW
end HW
namespace HW
open PySem PySem.Spec PyProof.Rows L2
section
variable{X:Cx}
end
section
variable{X:Cx}
end
end HW
namespace HW
end HW
namespace HW
open PySem PySem.Spec PyProof.Rows L2
section
variable{X:Cx}
end
end HW
namespace HW
open PySem
def uE(l:LD):OD:=Cw (λx y=>(lI x).bind λes=>(nI y).bind λk=>(intsOf es).bind λa=>if k∈a/\a.length<=1000 then some (.int ((a.idxOf k:Nat):Int)) else none) l
end HW
namespace HW
open PySem PySem.Spec PyProof.Rows L2
section
variable{X:Cx}
def Id(e:uE (x::l)=some r):∃a i,x=.lst a/\l=[.int i]:=by
 obtain⟨x,y,h,e⟩:=Ac e;cases h;obtain⟨a,d,e⟩:=d7 e;obtain⟨b,c,_⟩:=d7 e;cases BX c;exact⟨a,_,DK d,rfl⟩
def nR:TL X "list.index" uE:=by
 intro r s J H x K v us Q I w z h;obtain⟨N,ds,d,r1,i,e,q⟩:=h;obtain⟨es,k,rfl,rfl⟩:=Id e;obtain⟨a,xs,rfl,E,A⟩:=r1;cases (show v=_ from w);obtain⟨u,B,rfl,k1,i⟩:=i;cases (show B=[] from i);cases (show u=_ from k1);obtain⟨L,rfl,p,rfl⟩:=z.one;obtain⟨c,G,o⟩:=d7 (show(intsOf es).bind _=some d from e);split at o
 case isFalse=>cases o
 case isTrue hn =>
 cases o;obtain⟨_,b,n,g,M,t⟩:=I.lstM E;have hI:=bX G A g;have f:b.length=c.length:=IntsAre.length hI;have m:c.idxOf k<c.length:=List.idxOf_lt_length_iff.mpr hn.1
 refine call_meets PySem.F.slot_list_index ⟨_,t,rfl⟩ PySem.F.entry_list_index (PySem.F.args_list_index_2 _ _)
  (PySem.SeqAt.list_indexAt a b.toArray n none _ (.int k p) (isInt k) (c.idxOf k) (by simpa [f] using m) (by omega) ?_ ?_) ⟨t,λy C=>(eq_isInt k p hI y (by simpa using C)).at _ _,?_⟩
 ·show isInt k b[c.idxOf k]=true
  rw[isInt_at k hI _ (by omega) m];simpa using List.getElem_idxOf m
 ·intro j hjs l
  show isInt k b[j]=false;rw[isInt_at k hI j (by simpa using hjs) (by omega)];exact ne_of_lt_idxOf l _
 ·exact⟨.int ((c.idxOf k:Nat):Int),H,I.tok _,⟨_,rfl⟩,q _ H (g6.refl H) rfl⟩
def J8(h:uE (x::ds)=some d):∃es,x=.lst es:=by
 obtain⟨a,_,h,_⟩:=Id h;exact⟨a,h⟩
def mY(l:SE X a f)(m:SA X (e::es) F)
  (g:attributeBase a "index" X.env (eval a X.env)=eval a X.env:=by rfl)
  (h:((backTo j (starEach (e::es) X.env)).all (λx=>!x.1)&&(backToKw j (keywordEach [] X.env)).all (λx=>x.1.isSome)&&decide ((e::es).length+([]:List Keyword).length+(if ([]:List Keyword).isEmpty then 0 else 1)<30))=true:=by rfl)
  (c:(o.endLine==j.line)=true:=by rfl):SE X (.Call (.Attribute a "index" o) (e::es) [] j) (d3 uE (b8 f F)):=by
 have b:=m.2.2;rw[W9,Wj] at b;refine(jC (T:="list") PySem.F.plainAttrs_list PySem.F.slot_list_index PySem.F.type_list_index nR l m.1 g h c (ad es X.env b.1) (aM (pos:=j) (env:=X.env) b.2)).imp λy H Q k=>?_
 obtain⟨ρ,d,n,e,q⟩:=k;obtain⟨dd,i,e⟩:=d7 e;obtain⟨x,t,i⟩:=d7 i;obtain⟨ds,s,i⟩:=q8 i;subst i;obtain⟨es,rfl⟩:=J8 e;exact⟨ρ,_,n,t,λv C s1 r1=>⟨by obtain⟨a,xs,rfl,l,A⟩:=r1;exact .inl ⟨rfl,xs,.inl (.inl l)⟩,ρ,ds,n.mono s1,s,λz B s2 r=>⟨.lst es,ds,d,r1.mono s2,r,e,λu w s3 p=>q u w (s1.trans (s2.trans s3)) p⟩⟩⟩
end
abbrev Tu(K:Wb)(n:Str)(st:Xi)(f:V_):Prop:=∃(oc:V5) (od an:V3 V_) (sl:Array (V3 V5)) (kV dc pm cd ct:V5),W.nsIn K mainGlobals n=some (some (.ref f)) /\
 K.lookup f=some ⟨oc,od,.func (W.fnOf n n (rK st) (qW st) (g9 st) .none kV dc pm an cd ct),sl⟩/\W.codeIn K cd n=true/\W.keepIn K (.ref f)=true
def TQ{K:Wb}{n:Str}{st:Xi}{f:V_}(h:Tu K n st f):∃fd,Hh K n n st f fd/\W.nsIn K mainGlobals n=some (some (.ref f)):=by
 obtain⟨e,d,j,b,kV,g,pm,i,ct,a,l,c,k⟩:=h;exact⟨_,lC l c k,a⟩
def fn4_mk{K:Wb}{n:Str}{st:Xi}{f:V_}{g:V5}{e i:V3 V_}{d:Array (V3 V5)}{kV h pm b ct:V5}(a:W.nsIn K mainGlobals n=some (some (.ref f)))
  (l:K.lookup f=some ⟨g,e,.func (W.fnOf n n (rK st) (qW st) (g9 st) .none kV h pm i b ct),d⟩) (c:W.codeIn K b n=true) (k:W.keepIn K (.ref f)=true):Tu K n st f:=⟨g,e,i,d,kV,h,pm,b,ct,a,l,c,k⟩
def GF.m{K:Wb}{j k:Nat}(h:GF P w K mg base j x ps F)(a:j<=k:=by decide):GF P w K mg base k x ps F:=h.mono a
section
variable{X:Cx}{pos p:Pos}{e:WG}{es:List WG}{k i:Nat}{f c':V_}{G:LD->OD}{F:R->V3 LD}{name qual:Str}{params:Arguments}{body:WG}{scope:Scope}{cl:List (Str×V_)}{pm ctv:V5}{ps:List Str}
def NH(h:WK)(x:h.get? f=some (W.kla_obj name qual params body scope cl pm c' ctv)):∃k,(k=Keeper.frame\/k=Keeper.machine\/k=Keeper.boundFrame)/\W.Looks M h (keeperOf (.ref f)) k:=
 ⟨.frame,.inl rfl,(W.Looks.ld (part:=none) x).andThen .now⟩
def mh(O:rM X.prog X.w X.K X.mg X.base vq k f (W.kla_fn name qual params body scope cl pm (.ref c') ctv) ps sp)(bd:Binds X.K (W.kla_fn name qual params body scope cl pm (.ref c') ctv) ps [])(E:rJ k X.A)
  (L:PA X (e::es) t) (n:starEach (e::es) X.env=(false,eval e X.env)::starEach es X.env) (j:(backTo pos (starEach es X.env)).any (·.1)=false) (M:X.N[i]?=some x:=by rfl) (C:Do X.env.scope x:=by first | exact Or.inl rfl | exact Or.inr (Or.inl rfl) | exact Or.inr (Or.inr rfl))
  (hd:(x==("__debug__" : Str))=false:=by decide) (l:(x==("__classdict__" : Str))=false:=by decide) :
  PE X (.Call (.Name x p) (e::es) [] pos) λd H Q=>d[i]?=some (some (.ref f))/\t d H λg c=>c f=some (we (W.kla_obj name qual params body scope cl pm c' ctv))/\sp g c Q E0:=by
 intro a s d H Q I b;obtain⟨z,h⟩:=b;refine Xk (rg (gB (pos:=p) M C hd l a s d H (λv c=>v=.ref f/\c=H) I ⟨.ref f,z,rfl,rfl⟩) λu s1 b=>?_);obtain⟨v,c,U,B,S,T⟩:=b;subst S T;cases (show u=_ from B);rw[n];refine W.callWith_of (P:=λh=>h.get? f=some (W.kla_obj name qual params body scope cl pm c' ctv)) (by show((false||(backTo pos (starEach es X.env)).any (·.1))||false)=false;rw[j];rfl) NH (Calls.evalArgs_plain ?_);have o:=L pos a s1 d c (λg m=>m f=some (we (W.kla_obj name qual params body scope cl pm c' ctv))/\sp g m Q E0) U h;rw[n] at o;refine rg o λus s2 ⟨g,m,y,r,J,q⟩=>⟨(y.hok f _ J).1,?_⟩
 exact Gh O E bd .nil AB y r (by rw[WT];exact q)
end
section
variable{X:Cx}{pins:List (V_×Obj)}{σ:L2.St}{H:Hp}{s:V7}{pos:Pos}
def oq(TB:rL X.mg h X.base)(j:t∈h)(d:X.env.code=.ref t.c)(k:X.env.qual ++ "<lambda>" = t.q)(hcl:closureFor scope X.env=pure a)(g:defaultsOf params X.env=([],[]):=by rfl) :
  PE X (.Lambda params body scope pos) λσ H Q=>H t.P=some (.tbl t.q false)/\∀f c' ctv pm e,g6 H e->H f=none->e f=some (we (W.kla_obj "<lambda>" t.q params body scope a pm c' ctv))->e c'=some (.tbl t.q true)->Q (.ref f) e:=by
 intro pins s σ H Q I b;obtain⟨m,q⟩:=b;refine W.kla_eval g ?_;rw[k];refine rg (K8 I TB j m d hcl) λv r b=>?_
 obtain⟨f,c',ctv,pm,e,o,p,i,l,h1,n⟩:=b;exact⟨.ref f,e,p,o,q f c' ctv pm e i l h1 n⟩
def ww(cl:List (Str×V_))(h:WK)(H:Hp):Hp:=λb=>if tN cl b then (h.get? b).map we else H b
def yo(a:tN cl b=true)(e:h.get? b=some o):ww cl h H b=some (we o):=by
 show(if tN cl b then (h.get? b).map we else H b)=_;rw[Wc a,e];rfl
def t9(a:tN cl b=false):ww cl h H b=H b:=by
 show(if tN cl b then (h.get? b).map we else H b)=_;rw[Wu (by rw[a];decide)]
def vM(a:tN cl b=false):vV cl H b=H b:=by
 show(if tN cl b then none else H b)=_;rw[Wu (by rw[a];decide)]
def HM(a:tN cl b=true):vV cl H b=none:=by
 show(if tN cl b then none else H b)=_;rw[Wc a]
def OH{k:Nat}(F:rM X.prog X.w X.K X.mg X.base vq k f fd ps sp)(hr:rJ k X.A)(p:Binds X.K fd ps [])(M:∀x,X.fn x=true)(hcl:∀b,tN cl b=true->∃x,X.env.cells.lookup x=some b)
  (I:L2.Inv X pins σ H s) (r:qP J us) (h:sp J (ww cl s.heap H) (λv B=>Q v (vV cl B)) E0):wpAny (model X.prog X.w) X.A (call (.ref f) us) (EP X pins σ Q) X.xe s:=by
 have i:∀{b:V_},tN cl b=true->∃o v,s.heap.get? b=some o/\o.data=.cell v/\H b=none/\X.s₀.heap.objs.size<=b:=λ{b} p=>by
  obtain⟨x,l⟩:=hcl b p;obtain⟨v,o,e,d⟩:=I.cell x b l;exact⟨o,v,e,d,I.freeC x b l,I.ok.cab x b (M x) l⟩
 have T:∀{b:V_} {u:HO},H b=some u->tN cl b=false:=λ{b u} e=>by
  cases q:tN cl b with
  | false=>rfl
  | true=>obtain⟨_,_,_,_,z,_⟩:=i q;rw[e] at z;cases z
 have tk:∀{b:V_} {u:HO},H b=some u->ww cl s.heap H b=some u:=λe=>by rw[t9 (T e)];exact e
 have hok:xy X.prog X.w (ww cl s.heap H) s.heap:=λb u e=>by
  cases q:tN cl b with
  | true =>
   obtain⟨o,_,g,_⟩:=i q;rw[yo q g] at e;cases e;exact⟨g,trivial,⟨_,g⟩,λ_ _ _ _=>trivial⟩
  | false =>
   rw[t9 q] at e;exact(I.hok b u e).stay (λ_ _ _ g=>g) (λc g=>tk g) (λc xs g=>tk g) λc a d g=>tk g
 have C:∀{b:V_},b<X.s₀.heap.objs.size->tN cl b=false:=λ{b} p=>by
  cases q:tN cl b with
  | false=>rfl
  | true=>obtain⟨_,_,_,_,_,z⟩:=i q;exact Wz (Wv p z) (Xf _)
 have e0:I8 X.prog X.w X.K X.mg X.base X.A X.stack s (ww cl s.heap H):=by
  have z:=I.env0;refine⟨z.frames,z.mod,λb o e=>⟨(z.bs b o e).1,?_⟩,z.bsz,z.funs,λb p=>?_,hok,z.bare⟩
  ·rw[t9 (C (Wv (Wp e) I.ok.bsz))];exact(z.bs b o e).2
  ·have n:=z.frf b p
   cases q:tN cl b with
   | false=>rw[t9 q];exact n
   | true =>
    obtain⟨x,l⟩:=hcl b q;rcases Wo.mp (I.stkSub b p) with m | m
    ·exact Wz m (I.cne x b l)
    ·obtain⟨_,o,ho,_⟩:=I.ok.funs.mem m
     rw[C (Wp ho)] at q;cases q
 have hl:us.length=ps.length:=by rw[<- r.length];exact F.len _ _ _ _ h
 refine wpAny_call (codeAny_mono (F.run X.A X.stack s (ww cl s.heap H) ⟨us,[]⟩ us J _ E0 hr e0 (by have:=p s us I.kIn (by simpa using hl);simpa using this) r h) λZ S E=>?_);cases Z with
 | error e=>exact AB pins σ H s e S I E
 | ok fl =>
  cases fl with
  | next=>exact False.elim E
  | brk=>exact False.elim E
  | cont=>exact False.elim E
  | ret u =>
   obtain⟨v,B,os,bare,un,t,Y,q⟩:=E;obtain⟨U,g,d,W,L⟩:=S;obtain rfl:L=s.os:=os
   have P:∀{b:V_},tN cl b=true->∃o,s.heap.get? b=some o/\B b=some (we o)/\U.get? b=some o:=λ{b} p=>by
    obtain⟨o,_,e,_⟩:=i p;have z:=un.frzs b o _ (λy w=>by cases w) (yo p e);exact⟨o,e,z,(t b _ z).1⟩
   have bk:∀{b:V_} {u:HO},B b=some u->(∀o,u≠we o)->vV cl B b=some u:=λ{b u} e n=>by
    cases j:tN cl b with
    | false=>rw[vM j];exact e
    | true=>obtain⟨o,_,z,_⟩:=P j;rw[e] at z;cases z;exact Wz rfl (n o)
   refine⟨v,vV cl B,I.call (h':=U) (g':=g) (d':=d) (t':=W) (ch:=[]) ⟨λb o e n N l=>?_,λb o e n N l=>?_,λb o e n l=>?_,λb o e l=>un.there b o e l,λb xs e=>bk (un.tups b xs (tk e)) (λo z=>by cases z),λb o u ny e=>?_,λb a d' e=>bk (un.tbls b a d' (tk e)) (λo z=>by cases z)⟩ (λb u e=>?_) bare (λb z=>Wz z (by simp)),Y,q⟩
   ·cases j:tN cl b with
    | true=>obtain⟨o',G,_,O⟩:=P j;rw[e] at G;cases G;exact O
    | false=>exact un.keep b o e (by rw[t9 j];exact n) N l
   ·cases j:tN cl b with
    | true=>obtain⟨o',G,_,O⟩:=P j;rw[e] at G;cases G;exact⟨o.slots,O⟩
    | false=>exact un.slot b o e (by rw[t9 j];exact n) N l
   ·cases j:tN cl b with
    | true=>exact HM j
    | false=>rw[vM j];exact un.free b o e (by rw[t9 j];exact n) l
   ·rw[vM (T e)];exact un.frzs b o u ny (tk e)
   ·cases j:tN cl b with
    | true=>rw[HM j] at e;cases e
    | false =>
     rw[vM j] at e;exact(t b u e).stay (λ_ _ _ g=>g) (λc g=>bk g λo z=>by cases z) (λc xs g=>bk g λo z=>by cases z) λc a d g=>bk g λo z=>by cases z
end
def KL {l:W.OpenLaw} {n k:Nat} {q:Wr} {m:List Str} {XP:(Str->V3 V5)->WK->Prop} {Z:WC->WK->Prop} {d:DefRec} {K:Params->Wb} {CX:WC->FW} {sp:WC->List rf->Sp} {x:Str}
    (hn:l.most=some n) (L:n<=sizeLine) (hdf:d.params.defaults=[]) (hr:rJ k callerA)
    (hY:∀(w:WC) (h:WK),Z w h->(K w.params).In h)
    (F:∀(w:WC) (mg:Str->V3 V5) (fa:V_) (h:WK),(K w.params).In h->h.Ns mainGlobals mg->mg d.name=some (.ref fa) ->
      ∃(i:List rf) (fd:W_),(∀t∈i,(K w.params).lookup t.P=none/\∃y d',(recsOf q).find? (λe=>e.name==y)=some d'/\W.tabIn (K w.params) y=some (t.c,t.P))/\(∀(s:V7) (u:V5),BindsTo s fd ⟨[u],[]⟩ [(x,u)]) /\
        ∀base:WK,(K w.params).In base->base.Ns mainGlobals mg->rL mg i base->rM l.prog w (K w.params) mg base (CX w) k fa fd [x] (sp w i))
    (J:∀(w:WC) (i:List rf) (H:Hp) (a:V_) (C:List Int),C.length<=n->HZ i a H->(∀t∈i,t.P≠a)->uI (K w.params) H a (C.map V.int)->sp w i [.ref a] H (λv _=>v=.bl true) λ_ _ _=>False)
    (O:∀(w:WC) (H:Hp) (s:V7) (e:V5) (E:V7),CX w [] H s (λ_ _ _=>False) e E->False) :
    W.WalkO q m XP Z l.row.toRowW d [] (λf X=>PySem.call f X):=by
  refine Att.attach_call hn hdf λw s₀ r mg mb fa o pm cd doc a X C G Y ho hd hcd M B p j hg=>?_
  have U:=hY w _ Y;obtain⟨i,fd,A,hb,hF⟩:=F w mg fa _ U G.T.g M;refine IS U G.T.g G.T.b G.T.builtins G.T.nolimit hg B p (WD j L) hr (λt I=>?_) (λt I=>(A t I).1) ?_ hF hb (λH hO hP hS=>J w i H a C j hO hP hS) λH e E=>O w H r e E
  · obtain⟨_,y,d',h1,h2⟩:=A t I
    exact W.tab_of G.T U h1 h2
  · obtain⟨bm,ob,b1,b2,S,b4,b5,Q⟩:=G.T.bmain
    refine⟨bm,ob,b1,b2,λz=>?_,S,b4,b5,Q⟩;obtain⟨o',es,ep,e,N,_⟩:=G.T.g;rw[z,e] at S;cases S;rw[N] at Q;cases Q
section
variable{X:Cx}{pins:List (V_×Obj)}{σ:L2.St}{H Hp':Hp}{s:V7}{pos:Pos}
structure HY (X:Cx) (cl:List (Str×V_)) (σ:L2.St) (H H':Hp):Prop where
 out:∀b,tN cl b=false->H' b=H b
 cel:∀b,tN cl b=true->H b=none/\∃o v,H' b=some (we o)/\o.data=.cell v
 val:∀(i:Nat) (x:Str) (c:V_) (v:V),X.N[i]?=some x->σ[i]?=some (some v)->cl.lookup x=some c->∃o u,H' c=some (we o)/\o.data=.cell (some u)/\RelV v u
structure ID (X:Cx) (cl:List (Str×V_)):Prop where
 fn:∀x,X.fn x=true
 ndc:(cl.map (·.1)).Nodup
 of:∀x c,cl.lookup x=some c->X.env.cells.lookup x=some c/\X.env.scope.names.lookup x=some .cell
def ID.lk(o:ID X cl):∀b,tN cl b=true->∃x,X.env.cells.lookup x=some b:=λb c=>by
 obtain⟨p,a,e⟩:=List.any_eq_true.mp c;exact⟨p.1,(o.of p.1 b (vd o.ndc (by rw[<- Xs e];exact a))).1⟩
def Lj(o:ID X cl)(I:L2.Inv X pins σ H s):HY X cl σ H (ww cl s.heap H):=by
 refine⟨λb f=>t9 f,λb f=>?_,λi x c v h1 p j=>?_⟩
 ·obtain⟨x,a⟩:=o.lk b f
  obtain⟨v,ob,e,d⟩:=I.cell x b a;exact⟨I.freeC x b a,ob,v,yo f e,d⟩
 ·obtain⟨a,h⟩:=o.of x c j
  obtain⟨m,_,n⟩:=I.loc;obtain⟨u,l,lk⟩:=n i x v h1 p (.inr (.inl h));rcases lk with ⟨z,_⟩ | ⟨_,c2,k,ob,g,d⟩
  ·exact Wz (show some NameKind.cell=some NameKind.local from h.symm.trans z) (by simp)
  ·rw[a] at k
   cases k;exact⟨ob,u,yo (Gx j) g,d,l⟩
def lH{k:Nat}(F:rM X.prog X.w X.K X.mg X.base vq k f fd ps sp)(j:rJ k X.A)(n:Gl X x)(l:X.mg x=some (.ref f))(m:W.keepIn X.K (.ref f)=true)(y:Binds X.K fd ps [])(o:ID X cl)
  (z:PA X (e::es) t) (b:(x==("__debug__" : Str))=false:=by decide) (u:starEach (e::es) X.env=(false,eval e X.env)::starEach es X.env:=by rfl) (a:(backTo pos (starEach es X.env)).any (·.1)=false:=by rfl) :
  PE X (.Call (.Name x p) (e::es) [] pos) λσ H Q=>t σ H λd i=>∀g,HY X cl σ i g->sp d g (λv B=>Q v (vV cl B)) E0:=by
 intro pins s σ H Q I h;refine Xk (gD I n l ?_ b);refine W.callWith_K (h₀:=X.base) I.ok.mod.kin m (rg (z pos pins s σ H _ I h) λus s1 ⟨d,i,c,r,q⟩=>⟨c.kIn,?_⟩) u a;exact OH F j y o.fn o.lk c r (q _ (Lj o c))
end
end HW
namespace HW
open PySem
noncomputable def EB:D->Bool
 | .dct _ ds=>rW ds
 | .dcp _ ds=>rW ds
 | d=>uF d
abbrev Hu:=uu->V3 (LD->OD)
def x6(L:Hu)(i:Nat)(F:R->V3 LD):R->OD:=λρ=>(b9 i ρ).bind λc=>(F ρ).bind λas=>match c with
 | .cl t _ ds=>(L t).bind λG=>if rW as=true/\rW ds=true/\as.length=t.ps.length then (G (as++ds)).bind λd=>if uF d then some d else none else none
 | _=>none
def xY(n:Nat)(g:R->OD):LD->OD:=λxs=>if xs.length=n then g (xs.map some) else none
def wo:List Nat->R->V3 LD
 | [],_=>some []
 | j::js,ρ=>(b9 j ρ).bind λd=>(wo js ρ).map (d::·)
def vj(G:LD->OD)(t:uu)(F C:R->V3 LD):R->OD:=λρ=>(F ρ).bind λas=>(C ρ).bind λcaps=>open Classical in
 if h:rW caps=true/\∃d,EB d=true/\∀a,G (as++[.cl t a caps])=some d then some h.2.choose else none
def A8(h1:F ρ=some as)(f:C ρ=some caps)(e:rW caps=true)(c:EB d=true)(b:∀a,G (as++[.cl t a caps])=some d):vj G t F C ρ=some d:=by
 unfold vj;rw[h1,Wa,f,Wa,dif_pos ⟨e,d,c,b⟩];have z:=(show ∃d,EB d=true/\∀a,G (as++[.cl t a caps])=some d from⟨d,c,b⟩).choose_spec.2 0;rw[b 0] at z;exact congrArg some (Wq z).symm
def Mb(h:vj G t F C ρ=some d):∃as caps,F ρ=some as/\C ρ=some caps/\rW caps=true/\EB d=true/\∀a,G (as++[.cl t a caps])=some d:=by
 unfold vj at h;cases e:F ρ with
 | none=>rw[e] at h;cases h
 | some as =>
  rw[e,Wa] at h;cases b:C ρ with
  | none=>rw[b] at h;cases h
  | some caps =>
   rw[b,Wa] at h;split at h
   ·rename_i q
    cases h;exact⟨as,caps,rfl,rfl,q.1,q.2.choose_spec⟩
   ·cases h
noncomputable def sB(i:Nat):Xi->Xi
 | .For _ _ b _ _=>b.getD i (.Pass ⟨0,0,0,0⟩)
 | .If _ b _ _=>b.getD i (.Pass ⟨0,0,0,0⟩)
 | .FunctionDef _ _ b ..=>b.getD i (.Pass ⟨0,0,0,0⟩)
 | s=>s
def sV:Xi->WG
 | .Assign _ v ..=>v
 | .Return (some v) _=>v
 | .Expr v _=>v
 | _=>.Name "" ⟨0,0,0,0⟩
def eA(i:Nat):WG->WG
 | .Call _ a _ _=>a.getD i (.Name "" ⟨0,0,0,0⟩)
 | e=>e
def L4(q:Str)(N ps:List Str):WG->uu
 | .Lambda a b c _=>⟨q,a,b,c,N,ps⟩
 | _=>default
def U1:WG->Nat
 | .Call _ _ _ p=>p.line
 | _=>0
end HW
namespace HW
open PySem PySem.Spec PyProof.Rows L2
section
variable{K:Wb}{H H':Hp}
def tS.clo(s:∀b u,H b=some u->(∀o,u≠we o)->H' b=some u)(h:tS K H a xs):tS K H' a xs:=by
 rcases h with (h | ⟨o,h⟩) | h
 ·exact .inl (.inl (s _ _ h λo z=>by cases z))
 ·exact .inl (.inr ⟨o,s _ _ h λo z=>by cases z⟩)
 ·exact .inr h
def uI.clo(s:∀b u,H b=some u->(∀o,u≠we o)->H' b=some u)(h:uI K H a xs):uI K H' a xs:=by
 rcases h with (h | ⟨o,h⟩) | h
 ·exact .inl (.inl (s _ _ h λo z=>by cases z))
 ·exact .inl (.inr ⟨o,s _ _ h λo z=>by cases z⟩)
 ·exact .inr h
mutual
theorem Rep.clo(s:∀b u,H b=some u->(∀o,u≠we o)->H' b=some u):∀{d:D} {v:V},uF d=true->Rep K H d v->Rep K H' d v
 | .non,_,_,h=>h
 | .bl _,_,_,h=>h
 | .int _,_,_,h=>h
 | .str _,_,_,h=>h
 | .tup ds,_,hn,h=>by
  obtain⟨a,xs,e,q,r⟩:=h;exact⟨a,xs,e,tS.clo s q,g7.clo s hn r⟩
 | .lst ds,_,hn,h=>by
  obtain⟨a,xs,e,q,r⟩:=h;exact⟨a,xs,e,s _ _ q (λo z=>by cases z),g7.clo s hn r⟩
 | .fro ds,_,hn,h=>by
  obtain⟨a,xs,e,q,r⟩:=h;exact⟨a,xs,e,uI.clo s q,g7.clo s hn r⟩
 | .obj ..,_,hn,_=>by cases hn
 | .dct ..,_,hn,_=>by cases hn
 | .dcp ..,_,hn,_=>by cases hn
 | .cl ..,_,hn,_=>by cases hn
theorem g7.clo(s:∀b u,H b=some u->(∀o,u≠we o)->H' b=some u):∀{ds:LD} {c:List V},rW ds=true->g7 K H ds c->g7 K H' ds c
 | [],_,_,h=>h
 | d::ds,_,hn,h=>by
  have a:(uF d&&rW ds)=true:=hn;rw[Wj] at a;obtain⟨v,r,e,q,t⟩:=h;exact⟨v,r,e,Rep.clo s a.1 q,g7.clo s a.2 t⟩
end
def Rep.cloC(s:∀b u,H b=some u->(∀o,u≠we o)->H' b=some u)(c:EB d=true)(h:Rep K H d v):Rep K H' d v:=by
 match d,c,h with
 | .dct ks ds,c,h =>
  obtain⟨a,xs,e,⟨i,o,q⟩,r⟩:=h;exact⟨a,xs,e,⟨i,o,s _ _ q (λg z=>by cases z)⟩,g7.clo s c r⟩
 | .dcp ks ds,c,h =>
  obtain⟨a,f,xs,e,q,r⟩:=h;obtain⟨⟨h1,m,l⟩,o,P,w,k,j⟩:=q;exact⟨a,f,xs,e,⟨⟨h1,m.to (λ_ _=>tS.clo s),l⟩,o,P,w,s _ _ k (λg z=>by cases z),j⟩,g7.clo s c r⟩
 | .non,c,h=>exact Rep.clo s c h
 | .bl _,c,h=>exact Rep.clo s c h
 | .int _,c,h=>exact Rep.clo s c h
 | .str _,c,h=>exact Rep.clo s c h
 | .tup _,c,h=>exact Rep.clo s c h
 | .lst _,c,h=>exact Rep.clo s c h
 | .fro _,c,h=>exact Rep.clo s c h
 | .obj ..,c,h=>cases c
 | .cl ..,c,h=>cases c
def Fv(a:∀b,tN cl b=true->∃o,H b=some (we o)):∀b u,H b=some u->(∀o,u≠we o)->vV cl H b=some u:=λb u e n=>by
 cases q:tN cl b with
 | false=>rw[vM q];exact e
 | true =>
  obtain⟨o,z⟩:=a b q;rw[e] at z;exact Wz (Wq z) (n o)
def lZ:∀{ds:LD} {a:List V},g7 K H ds a->sh K H (ds.map some) (a.map some):=λ{ds a} r=>by
 refine⟨by rw[V9,V9,r.length];exact Wl _,λi d h=>?_⟩;rw[Wg] at h;obtain⟨d',e,q⟩:=q8 h;cases q;obtain⟨v,h1,b⟩:=r.get e;exact⟨v,by rw[Wg,h1];rfl,b⟩
end
def VG(K:Wb)(t:uu)(G:LD->OD)(f c':V_)(cl:List (Str×V_))(pm ctv:V5):Sp:=λb H Q _=>∃as ds caps d,H f=some (we (W.kla_obj "<lambda>" t.q t.params t.body t.scope cl pm c' ctv))/\H c'=some (.tbl t.q true)/\xF H t.N t.ps cl caps /\
 as.length=t.ps.length/\g7 K H as b/\g7 K H ds caps/\rW as=true/\rW ds=true/\G (as++ds)=some d/\uF d=true/\∀v a,g6 H a->Rep K a d v->Q v a
structure Cs (P:Wr) (w:WC) (K:Wb) (mg:Str->V3 V5) (base:WK) (k:Nat) (t:uu) (G:LD->OD):Prop where
 ok:∀(f c':V_) (cl:List (Str×V_)) (pm ctv:V5),vi t.N t.ps t.scope cl->rM P w K mg base vq k f (W.kla_fn "<lambda>" t.q t.params t.body t.scope cl pm (.ref c') ctv) t.ps (VG K t G f c' cl pm ctv)
 bd:∀(c':V_) (cl:List (Str×V_)) (pm ctv:V5),Binds K (W.kla_fn "<lambda>" t.q t.params t.body t.scope cl pm (.ref c') ctv) t.ps []
def F9{K:Wb}{k:Nat}
  (i:∀(cl:List (Str×V_)) (f c':V_) (A:WM) (outer:List Env) (s:V7) (H:Hp) (E:XK),vi t.N t.ps t.scope cl->rJ k (A.deeper (W.envX t.q t.scope s.heap.objs.size f (.ref c') cl))->SE (Hd vq P w K mg base t.N t.q t.scope cl f (.ref c') A outer s H E) t.body g)
  (bd:∀(c':V_) (cl:List (Str×V_)) (pm ctv:V5),Binds K (W.kla_fn "<lambda>" t.q t.params t.body t.scope cl pm (.ref c') ctv) t.ps []):Cs P w K mg base (k+1) t (xY t.N.length g):=by
 refine⟨λf c' cl pm ctv S=>QV S (λj H Q E a=>by obtain⟨as,ds,caps,d,_,_,_,l,r,_⟩:=a;rw[<- r.length];exact l) (λj H Q E a=>by obtain⟨as,ds,caps,d,h1,n,_⟩:=a;exact⟨h1,n⟩) (λA outer s H j Q E F _ h=>?_),bd⟩;obtain⟨as,ds,caps,d,h1,n,m,l,r1,y,n1,C,e,nd,q⟩:=h;have G:∀b,tN cl b=true->∃o,H b=some (we o):=λb i=>let ⟨o,_,z,_⟩:=m.2.1 b i;⟨o,z⟩
 have p:=Fv G;unfold xY at e;split at e
 case isFalse=>cases e
 case isTrue hlen =>
 refine⟨caps,_,m,i cl f c' A outer s H E S F,(as++ds).map some,d,?_,e,λv I s2 x bk=>q v _ (λb u c=>?_) (x.mono λb u c=>bk b u c)⟩
 ·exact lZ (g7.append (g7.clo p n1 r1) (g7.clo p C y))
 ·show(if tN cl b then H b else I b)=some u
  cases B:tN cl b with
  | true=>exact c
  | false=>exact s2 b u (by rw[vM B];exact c)
section
variable{X:Cx}{pos p:Pos}{e:WG}{es:List WG}{k i:Nat}{F:R->V3 LD}
def lY(i:Nat)(LO:∀t G,L t=some G->Cs X.prog X.w X.K X.mg X.base k t G)(Z:rJ k X.A)(J:SA X (e::es) F)(hN:X.N[i]?=some x:=by rfl)(Y:Do X.env.scope x:=by first | exact Or.inl rfl | exact Or.inr (Or.inl rfl) | exact Or.inr (Or.inr rfl))
  (hd:(x==("__debug__" : Str))=false:=by decide) (y:(x==("__classdict__" : Str))=false:=by decide):SE X (.Call (.Name x p) (e::es) [] pos) (x6 L i F):=by
 have f:=J.2.2;rw[W9,Wj] at f;have he:=ad es X.env f.1;have m:=aM (pos:=pos) (env:=X.env) f.2;intro g s P H Q I l;obtain⟨ρ,d,M,e0,q⟩:=l;obtain⟨c,h,e1⟩:=d7 e0;obtain⟨as,eF,O⟩:=d7 e1;obtain⟨t,a,ds,rfl⟩:∃t a ds,c=.cl t a ds:=by clear h;cases c<;>first | exact⟨_,_,_,rfl⟩ | cases O
 obtain⟨G,hG,C⟩:=d7 O;split at C
 case isFalse=>cases C
 case isTrue hc =>
 obtain⟨n1,W,hl⟩:=hc;obtain⟨d',n,B⟩:=d7 C;split at B
 case isFalse=>cases B
 case isTrue nd =>
 cases B;obtain⟨v,j,T⟩:=M.at h;obtain⟨ev,cl,xs,pm,ctv,c',h1,h2,S,h3,r⟩:=T;subst ev;have E:=LO t G hG;refine mh (E.ok a c' cl pm ctv S) (E.bd c' cl pm ctv) Z J.1 he m hN Y hd y g s P H Q I ⟨j,ρ,as,M,eF,λvs H1 s1 r1=>⟨s1 _ _ h1,as,ds,xs,d,s1 _ _ h1,s1 _ _ h2,h3.to λb o z=>s1 _ _ z,hl,r1,r.mono s1,n1,W,n,nd,λu H2 s2 U=>q u H2 (s1.trans s2) U⟩⟩
end
theorem EK{K:Wb}(g:sh K H ρ e):∀{b:List Nat} {cs:LD},wo b ρ=some cs->∃a,g7 K H cs a/\a.length=b.length/\∀(i j:Nat) (v:V),b[i]?=some j->a[i]?=some v->e[j]?=some (some v)
 | [],_,h=>by cases h;exact⟨[],rfl,rfl,λi j v h=>by cases h⟩
 | j::b,cs,h=>by
  obtain⟨d,q,h⟩:=d7 h;obtain⟨s,p,rfl⟩:=q8 h;obtain⟨v,c,l⟩:=g.at q;obtain⟨a,r,n,o⟩:=EK g p;refine⟨v::a,⟨v,a,rfl,l,r⟩,by simp[n],λi m k h1 f=>?_⟩;cases i with
  | zero=>cases h1;cases f;exact c
  | succ i=>exact o i m k h1 f
noncomputable def RG(K:Wb)(t:uu)(cl:List (Str×V_))(Pt:V_)(F:R->V3 LD):TA:=λc H Q=>∃ ρ as,sh K H ρ c/\F ρ=some as/\H Pt=some (.tbl t.q false) /\
 ∀b f c' ctv pm a,g6 H a->g7 K a as b->H f=none->a f=some (we (W.kla_obj "<lambda>" t.q t.params t.body t.scope cl pm c' ctv))->a c'=some (.tbl t.q true)->Q (b++[.ref f]) a
section
variable{X:Cx}{pos p:Pos}{e:WG}{es:List WG}{k:Nat}{F:R->V3 LD}{t:uu}{cl:List (Str×V_)}{ct:rf}{ts:List rf}
def KR(TB:rL X.mg ts X.base)(l:ct∈ts)(a:X.env.code=.ref ct.c)(m:X.env.qual ++ "<lambda>" = ct.q)(b:t.q=ct.q)(hcl:closureFor t.scope X.env=pure cl)(d:defaultsOf t.params X.env=([],[]):=by rfl):PA X [.Lambda t.params t.body t.scope pos] (RG X.K t cl ct.P d4):=
 (cM (oq (pos:=pos) TB l a m hcl d) GO).imp λr H Q g=>by
  obtain⟨ρ,as,s,e,h,q⟩:=g;cases e;rw[b] at h;refine⟨h,λf c' ctv pm o j n h1 i=>?_⟩;rw[<- b] at h1 i;exact q [] f c' ctv pm o j rfl n h1 i
def LC{Pt:V_}(m:SE X e f)(j:PA X es (RG X.K t cl Pt F))(i:noStar e=true:=by rfl):PA X (e::es) (RG X.K t cl Pt (b8 f F)):=
 (cM m j (ad es X.env i)).imp λz H Q a=>by
  obtain⟨ρ,as,c,e,n,q⟩:=a;obtain⟨x,s,e⟩:=d7 e;obtain⟨y,r,e⟩:=q8 e;subst e;refine⟨ρ,x,c,s,λv A s1 r1=>⟨ρ,y,c.mono s1,r,s1 _ _ n,λd g c' ctv pm w s2 h b h1 o=>q (v::d) g c' ctv pm w (s1.trans s2) (g7.cons (r1.mono s2) h) ?_ h1 o⟩⟩;cases l:H g with
  | none=>rfl
  | some u=>rw[s1 g u l] at b;cases b
def mi{Pt:V_}(C:GF X.prog X.w X.K X.mg X.base k x ps G)(hr:rJ k X.A)(hT:X.H₀ Pt=some (.tbl t.q false))(o:ID X cl)(S:vi t.N t.ps t.scope cl)
  (hjs:M.map (λj=>X.N[j]?)=(t.N.drop t.ps.length).map some) (hcn:∀y c,cl.lookup y=some c->y∈t.N.drop t.ps.length) (ha:PA X (e::es) (RG X.K t cl Pt F)) (r:(e::es).all noStar=true:=by rfl) (hg:Gl X x:=by rfl) (hdb:(x==("__debug__" : Str))=false:=by decide) :
  SE X (.Call (.Name x p) (e::es) [] pos) (vj G t F (wo M)):=by
 rw[W9,Wj] at r;have he:=ad es X.env r.1;have hpl:=aM (pos:=pos) (env:=X.env) r.2;obtain⟨fa,fd,fok,hm,kp,bd⟩:=C.ex;intro L s σ H Q I Z;obtain⟨ρ,d,er,e0,q⟩:=Z;obtain⟨as,cs,eF,eC,nc,nd,hG⟩:=Mb e0;refine lH fok hr hg hm kp bd o ha hdb he hpl L s σ H Q I ⟨ρ,as,er,eF,I.base.tbls _ _ _ hT,λvs f c' ctv pm H1 s1 r1 hn h1 h2 H2 tr=>?_⟩
 have a:g6 H1 H2:=λb u g=>by
  cases J:tN cl b with
  | false=>rw[tr.out b J];exact g
  | true=>rw[(tr.cel b J).1] at g;cases g
 obtain⟨m,rc,hl,T⟩:=EK (er.mono s1) eC
 have P:M.length=t.N.length - t.ps.length:=by
  have:=congrArg List.length hjs;rw[V9,V9,Xq] at this;exact this
 have n:∀(i:Nat) (y:Str),(t.N.drop t.ps.length)[i]?=some y->∃j,M[i]?=some j/\X.N[j]?=some y:=λi y U=>by
  have h:=congrArg (λl=>l[i]?) hjs;simp only[Wg] at h;rw[U] at h;cases B:M[i]? with
  | none=>rw[B] at h;cases h
  | some j=>rw[B] at h;exact⟨j,rfl,Wq h⟩
 have caps:xF H2 t.N t.ps cl m:=by
  refine⟨by rw[hl,P],λb g=>?_,λi y v U hv=>?_⟩
  ·obtain⟨pr,hp,ep⟩:=List.any_eq_true.mp g
   have O:cl.lookup pr.1=some b:=vd o.ndc (by rw[<- Xs ep];exact hp);obtain⟨i,hi⟩:=List.getElem?_of_mem (hcn _ _ O);obtain⟨j,B,hN⟩:=n i _ hi;have hil:i<m.length:=by rw[hl];exact(Wm.mp B).1
   obtain⟨ob,u,Y,W,_⟩:=tr.val j _ b m[i] hN (T i j _ B (List.getElem?_eq_getElem hil)) O;exact⟨ob,u,Y,W⟩
  ·obtain⟨j,B,hN⟩:=n i y U
   obtain⟨c,hc⟩:=S.has y (S.fre y (Wi U));obtain⟨ob,u,Y,W,z3⟩:=tr.val j y c v hN (T i j v B hv) hc;exact⟨c,ob,u,hc,Y,W,z3⟩
 refine⟨as++[.cl t f cs],d,?_,hG f,λv H' s2 rv=>q v _ (λb u g=>?_) (Rep.cloC (Fv λb g=>?_) nd rv)⟩
 ·exact g7.append (r1.mono a) (g7.one ⟨rfl,cl,m,pm,ctv,c',a _ _ h1,a _ _ h2,S,caps,rc.mono a⟩)
 ·have E:=s1 b u g
  cases J:tN cl b with
  | true=>rw[(tr.cel b J).1] at E;cases E
  | false=>rw[vM J];exact s2 b u (a b u E)
 ·obtain⟨_,ob,_,z,_⟩:=tr.cel b g
  exact⟨ob,s2 _ _ z⟩
end
structure GD (K:Wb) (x qual:Str) (st:Xi) (f:V_) (fd:W_) (c:V_):Prop where
 ex:∃(oc:V5) (od:V3 V_) (kV doc pm:V5) (an:V3 V_) (ct:V5) (osl:Array (V3 V5)),
  fd=W.fnOf x qual (rK st) (qW st) (g9 st) .none kV doc pm an (.ref c) ct/\K.lookup f=some ⟨oc,od,.func fd,osl⟩/\W.codeIn K (.ref c) qual=true
 kp:W.keepIn K (.ref f)=true
def spT(K:Wb)(F:LD->OD)(t:rf):Sp:=λa H Q E=>H t.P=some (.tbl t.q false)/\NT K F a H Q E
def gl{P:Wr}{w:WC}{K:Wb}{mg:Str->V3 V5}{base:WK}{x qual:Str}{st:Xi}{f:V_}{fd:W_}{N ps:List Str}{k:Nat}{F:LD->OD}{g:R->V3 Out}{t:rf}
  (C:GD K x qual st f fd t.c) (S:sL N ps (g9 st)) (a:∀ds d,F ds=some d->ds.length=ps.length)
  (u:∀(A:WM) (outer:List Env) (s:V7) (H:Hp) (E:XK),rJ k (A.deeper (envOfC qual (g9 st) s.heap.objs.size f (.ref t.c)))->H t.P=some (.tbl t.q false)->SS (wY vq P w K mg base N qual (g9 st) f (.ref t.c) A outer s H E).nox (qW st) g)
  (y:∀ds d,F ds=some d->rm (g (AM N.length ds))=some d):rM P w K mg base vq (k+1) f fd ps (spT K F t):=by
 obtain⟨J,I,kV,B,pm,L,ct,n,rfl,lk,i⟩:=C.ex;refine og lk i S (λl H Q E h=>?_) (λA outer s H l Q E p h=>?_)
 ·obtain⟨_,ds,d,r,e,_⟩:=h
  rw[<- r.length];exact a ds d e
 ·obtain⟨hT,ds,d,r,e,q⟩:=h
  refine⟨_,(u A outer s H E p hT).nox,?_⟩;have z:=y ds d e;cases b:g (AM N.length ds) with
  | none=>rw[b] at z;cases z
  | some o =>
   rw[b] at z;refine⟨AM N.length ds,_,o,(zX r).t,b,λj s1=>?_⟩;cases o with
   | rt d'=>cases (show d'=d from Wq z);exact λv m=>q v j s1 m
   | nx ρ=>cases (show D.non=d from Wq z);exact λG _=>q .non j s1 rfl
   | bk ρ=>cases z
   | ct ρ=>cases z
structure DH (X:Cx) (t:uu) (cl:List (Str×V_)) (ct:rf) (js:List Nat):Prop where
 TB:rL X.mg [ct] X.base
 hT:X.H₀ ct.P=some (.tbl ct.q false)
 tq:t.q=ct.q
 code:X.env.code=.ref ct.c
 qual:X.env.qual ++ "<lambda>" = ct.q
 hcl:closureFor t.scope X.env=pure cl
 hdf:defaultsOf t.params X.env=([],[])
 own:ID X cl
 sc:vi t.N t.ps t.scope cl
 hjs:js.map (λj=>X.N[j]?)=(t.N.drop t.ps.length).map some
 hcn:∀y c,cl.lookup y=some c->y∈t.N.drop t.ps.length
def Kl{j:Nat}(TB:rL X.mg [ct] X.base)(hT:X.H₀ ct.P=some (.tbl ct.q false))(tq:t.q=ct.q)(code:X.env.code=.ref ct.c)(qual:X.env.qual ++ "<lambda>" = ct.q)
  (fn:∀x,X.fn x=true) (hcl:closureFor t.scope X.env=pure [(x,c)]) (hdf:defaultsOf t.params X.env=([],[])) (b:X.env.cells.lookup x=some c) (k:X.env.scope.names.lookup x=some .cell) (l:X.N[j]?=some x)
  (i:t.scope.kind=.function) (co:t.scope.isCoroutine=false) (gen:t.scope.isGenerator=false) (nd:t.N.Nodup) (g:t.N=t.ps++[x]) (par:∀y∈t.ps,t.scope.names.lookup y=some .local) (e:∀y∈t.scope.names,y.2≠.cell)
  (fre:t.scope.names.lookup x=some .free) (only:∀y∈t.scope.names,y.2=.free->y.1=x):DH X t [(x,c)] ct [j]:=by
 have a:t.N.drop t.ps.length=[x]:=by rw[g,List.drop_left]
 have lk:∀y c',List.lookup y [(x,c)]=some c'->y=x/\c'=c:=λy c' h=>by
  rw[List.lookup_cons] at h;cases q:y==x with
  | true=>rw[q] at h;cases h;exact⟨Xs q,rfl⟩
  | false=>rw[q] at h;cases h
 have f:List.lookup x [(x,c)]=some c:=by rw[List.lookup_cons];simp
 refine⟨TB,hT,tq,code,qual,hcl,hdf,⟨fn,by simp,λy c' h=>?_⟩,⟨i,co,gen,nd,by rw[g,List.take_left],par,e,λy d=>?_,λy d=>?_,by simp,λy z c' h1 m=>by rw[(lk y c' h1).1,(lk z c' m).1]⟩,by rw[a];simp[l],λy c' h=>by rw[a,(lk y c' h).1];exact Wh.mpr rfl⟩
 ·obtain⟨rfl,rfl⟩:=lk y c' h
  exact⟨b,k⟩
 ·rw[a] at d
  rw[Wh.mp d];exact fre
 ·have:=only _ (Xd d) rfl
  rw[show y=x from this];exact⟨c,f⟩
section
variable{X:Cx}{pos p:Pos}{e:WG}{es:List WG}{k:Nat}{F:R->V3 LD}{t:uu}{cl:List (Str×V_)}{ct:rf}{js:List Nat}
def QG(o:DH X t cl ct js):PA X [.Lambda t.params t.body t.scope pos] (RG X.K t cl ct.P d4):=
 KR o.TB (Wh.mpr rfl) o.code o.qual o.tq o.hcl o.hdf
def kA(C:GF X.prog X.w X.K X.mg X.base k x ps G)(c:rJ k X.A)(o:DH X t cl ct js)(f:PA X (e::es) (RG X.K t cl ct.P F))(a:(e::es).all noStar=true:=by rfl)(d:Gl X x:=by rfl)(b:(x==("__debug__" : Str))=false:=by decide) :
  SE X (.Call (.Name x p) (e::es) [] pos) (vj G t F (wo js)):=mi C c (by rw[o.tq];exact o.hT) o.own o.sc o.hjs o.hcn f a d b
end
def U8(P:Wr)(w:WC)(K:Wb)(mg:Str->V3 V5)(base:WK)(k:Nat)(L:Hu):Prop:=∀t G,L t=some G->Cs P w K mg base k t G
def Gm{K:Wb}{t:uu}(h:∀(c':V_) (cl:List (Str×V_)) (pm ctv:V5) (us:List V5),us.length=t.ps.length->bindArgs (W.kla_fn "<lambda>" t.q t.params t.body t.scope cl pm (.ref c') ctv) ⟨us,[]⟩=pure (t.ps.zip us)) :
  ∀(c':V_) (cl:List (Str×V_)) (pm ctv:V5),Binds K (W.kla_fn "<lambda>" t.q t.params t.body t.scope cl pm (.ref c') ctv) t.ps []:=λc' cl pm ctv=>.all (h c' cl pm ctv)
def jo{K:Wb}(a:W.nsIn K mainGlobals x=some (some (.ref f)))(l:K.lookup f=some ⟨k,j,.func fd,d⟩)(n:fd.code=.ref c)
  (m:K.lookup c=some ⟨g,e,.fields i,b⟩) (h:i[11]?=some (.ref P)):W.tabIn K x=some (c,P):=by
 unfold W.tabIn;simp only[a,l,n,m,h]
end HW
namespace HW
open PySem
def Vl:Int ⊕ Str->D
 | .inl i=>.int i
 | .inr x=>.str x
def xR:List (Int ⊕ Str)->V3 (List Int)
 | []=>some []
 | .inl i::ks=>(xR ks).map (i::·)
 | _=>none
def LI:D->V3 (List Int)
 | .dct ks _=>xR ks
 | _=>none
def HG(e:LI d=some r):∃a b,d=.dct a b:=by cases d<;>first | exact⟨_,_,rfl⟩ | cases e
def Ds(l:LD):OD:=v9 (λx=>(LI x).bind λa=>if a.length<64 then some (.lst ((sG a).map .int)) else none) l
end HW
namespace HW
open PySem PySem.Spec PyProof.Rows L2
section
variable{X:Cx}
variable{o i:WG}{f g:R->OD}{pos apos cpos:Pos}
end
def E6(ok:xy P w H h)(e:H a=some (.frz o (.dK b))) :
  (a==sysModules)=false/\∃c es d,KV b c/\h.get? a=some o/\o.data=.dict es d/\h.DictAt (l7 P w) a c d:=by
 obtain⟨g,z,hd,c,r,j,es,d,g',h1,f,i⟩:=(show rO P w H h a (.frz o (.dK b)) from ok a _ e)
 rw[g] at g';cases g';exact⟨hd,c,es,d,r,g,f,o,es,g,h1,f,i⟩
section
variable{X:Cx}{a:WG}{f:R->OD}
end
theorem gp:∀{a:List V5} {b:List Int},a.length=b.length->(∀(j:Nat) (v:V5) (n:Int),a[j]?=some v->b[j]?=some n->∃t,v=Value.int n t)->IntsAre a b
 | [],[],_,_=>.nil
 | v::a,n::b,hl,h=>by
  obtain⟨t,rfl⟩:=h 0 v n rfl rfl;exact .cons n t (gp (by simpa using hl) λj c d h1 e=>h (j+1) c d h1 e)
def EH {n:Nat} {R:List V5->V7->Prop} (K:W.KdlSrc prog w T r d n P t) (v:A.handled=none) (hok:t s.heap) (u:n<=sizeLine)
    (h:∀(h':WK) (tk:Nat) (a:Array V5),(∀b o,s.heap.get? b=some o->h'.get? b=some o)->s.heap.objs.size<=h'.objs.size->ItemsOf P a n->R a.toList {s with heap:=h',toks:=tk}) :
    wpAny (model prog w) A (collect (.ref r)) R E s:=by
  have j:=K.there _ hok;unfold collect;refine V4 (wpAny_runValue (WR entry_proto_collect' ?_));rw[Around.under_plainId PySem.F.plain_proto_collect _];show wpAny _ A.in1 (newList [] >>= λl=>again (.builtin "list.__iadd__" ⟨[l,.ref r],[]⟩)) _ _ s;refine V4 (WO ?_);refine V8 ⟨plainId_quiet PySem.F.plain_list_iadd _,WR entry_list_iadd' ?_⟩;rw[Around.under_plainId PySem.F.plain_list_iadd _];have z:(s.heap.push {cls:=.type "list",data:=.seq ([]:List V5).toArray}).get? s.heap.objs.size=some {cls:=.type "list",data:=.seq #[]}:=Wf _ rfl;show wpAny _ A.in1 (Builtin.List.listExtendWith (.ref s.heap.objs.size) (.ref r) (.ref s.heap.objs.size)) _ _ _
  have key:=W.kdl_extend (A:=A) (s:={s with heap:=s.heap.push {cls:=.type "list",data:=.seq ([]:List V5).toArray} })
    (R:=λ(q:Result) (m:V7)=>∃(h':WK) (tk:Nat) (a:Array V5) (c:Nat),q=.ok (.ret (.ref s.heap.objs.size))/\m={s with heap:=h',toks:=tk} /\
      (∀b o,s.heap.get? b=some o->h'.get? b=some o)/\h'.get? s.heap.objs.size=some {cls:=.type "list",dict:=none,data:=.seq a c,slots:=#[]}/\ItemsOf P a n)
    K v (K.keep _ _ hok λb _ o e=>V6 _ e) s.heap.objs.size (Nat.ne_of_gt j.1) (Nat.ne_of_gt j.2) (.ref s.heap.objs.size) 0 z
    (λh' tk a c k i g=>⟨h',tk,a,c,rfl,rfl,λb o e=>k b o (WA (Wp e)) (V6 _ e),i,g⟩) u
  refine Xj key (λfin m x=>?_) λe m x=>?_
  · cases fin with
    | done f =>
      obtain⟨h',tk,a,c,e,rfl,k,i,g⟩:=x;cases e;show wpAny _ A (load s.heap.objs.size >>= _) _ _ _;exact V4 (wpAny_load i (V8 (h h' tk a k (Nat.le_of_lt (Wp i)) g)))
    | again c₁ =>
      refine⟨x.1,codeAny_mono x.2 λq p y=>?_⟩;obtain⟨h',tk,a,c,rfl,rfl,k,i,g⟩:=y;show wpAny _ A (load s.heap.objs.size >>= _) _ _ _;exact V4 (wpAny_load i (V8 (h h' tk a k (Nat.le_of_lt (Wp i)) g)))
  · obtain⟨_,_,_,_,B,_⟩:=x
    cases B
def Fd{P:Nat}(M:A.handled=none)(K:(d==sysModules)=false)(F:s.heap.DictAt (l7 prog w) d c P)
  (I:c.map (·.1)=z.map Sum.inl) (u:z.length<64)
  (h:∀(r:V_) (h':WK) (tk:Nat) (out:Array V5) (a:List Int) (n:Nat),IntsAre out.toList a->a.Perm z->a.Pairwise (·<=·)->s.heap.objs.size<=r->h'.get? r=some (seqObj "list" out n)->(∀b o,s.heap.get? b=some o->h'.get? b=some o)->Q (.ref r) {s with heap:=h',toks:=tk}) :
  wpAny (model prog w) A (call (.builtin "sorted") [.ref d]) Q E s:=by
 have H:c.length=z.length:=by have:=congrArg List.length I;rw[V9,V9] at this;exact this
 have L:c.length<=sizeLine:=by rw[H];exact WD (Nat.le_of_lt u) (by decide)
 refine Calls.call_function_entry kind_sorted plain_sorted entry_sorted (args_sorted1 _) ?_;unfold Builtin.«sorted»;refine V4 (m:=checkCount "sorted" 1 1 _) (V8 ?_);refine V4 (EH (A:=A.in1) (W.kdl_dict K) M F L λh1 tk f C hsz g=>?_);have q:f.toList.length=z.length:=by rw[WL,g.1,H]
 have hI:IntsAre f.toList z:=gp q λj v n h1 O=>by
  obtain⟨k,x,X,U⟩:=g.2 j v (by rw[<- Array.getElem?_toList];exact h1);have J:(c.map (·.1))[j]?=some k:=by rw[Wg,X];rfl
  rw[I,Wg,O] at J;have T:Sum.inl n=k:=Wq J;subst T;rcases ri (show zu (Sum.inl n) v=true from U) with ⟨i,t,G,rfl⟩ | ⟨y,t,G,_⟩
  ·cases G;exact⟨t,rfl⟩
  ·cases G
 refine V4 (wpAny_newList ?_ (by rw[q];exact WD (Nat.le_of_lt u) (by decide)));have l:(h1.push (seqObj "list" f.toList.toArray 0)).get? h1.objs.size=some (seqObj "list" f.toList.toArray 0):=Wf _ rfl;refine V4 (wpAny_holding (wpAny_call_entry slot_list_sort ⟨_,l,rfl⟩ entry_list_sort (list_sort_tree l hI (by rw[q];exact u) λout a a1 a2 a3=>⟨_,rfl,?_⟩) (args_list_sort _)));obtain⟨e,N⟩:=sortedHeap_at (out:=out) l;refine V8 ⟨_,rfl,h _ _ tk out a e a1 a2 a3 hsz N λb o S=>?_⟩;have B:=C b o S;have p:=Wp B;rw[sortedHeap_old (WA p) (by rw[size_push'];exact Nat.lt_succ_of_lt p),Heap.get?_push_ne _ _ _ (WA p)];exact B
section
variable{X:Cx}
theorem AH:∀{ks:List (Int ⊕ Str)} {a:List Int},xR ks=some a->ks=a.map Sum.inl
 | [],a,h=>by cases h;rfl
 | .inl i::ks,a,h=>by
  obtain⟨m,e,rfl⟩:=q8 h;rw[AH e];rfl
theorem Df:∀{a:List (Key×V)} {b:List (Key×V5)},KV a b->a.map (·.1)=b.map (·.1)
 | _,_,.nil=>rfl
 | _,_,.cons h r=>by rw[Ww,Ww,Df r,h.1]
def Kv(e:Ds l=some r):∃a b,l=[.dct a b]:=by
 obtain⟨x,rfl,e⟩:=tX e;obtain⟨a,e,_⟩:=d7 e;obtain⟨_,_,rfl⟩:=HG e;exact⟨_,_,rfl⟩
def lA(hc:X.calm=true)(hm:X.mg "sorted" = none)(he:SE X e f)(hg:Gl X "sorted":=by rfl)(k:noStar e=true:=by rfl) :
  SE X (.Call (.Name "sorted" p) [e] [] pos) (d3 Ds (b8 f d4)):=by
 intro h s J H Q I c;obtain⟨ρ,d,er,eq,q⟩:=c;obtain⟨ds,e1,G⟩:=d7 eq;have j:=ad [] X.env k;have l:=(aj he aD k).1 pos h s J H (λt E=>g6 H E/\g7 X.K E ds t) I ⟨ρ,ds,er,e1,λt E s2 T=>⟨s2,T⟩⟩;refine Call_ (aE I hg hm boot_sorted ?_);rw[j] at l ⊢;refine Calls.callWith_builtin rfl (Calls.evalArgs_plain ?_);refine rg l λus s1 c=>?_
 obtain⟨t,F,m,r1,w,P⟩:=c;obtain⟨ks,dd,rfl⟩:=Kv G;obtain⟨i,e3,C⟩:=d7 (show(xR ks).bind _=some d from G);split at C
 case isFalse=>cases C
 case isTrue hn =>
 cases C;obtain⟨v,U,rfl,⟨a,xs,rfl,⟨hl,o,Z⟩,rx⟩,O⟩:=P;cases (show U=[] from O);obtain⟨u,rfl,N⟩:=r1.one;cases (show u=_ from N);obtain⟨W,ws,es,ep,S,g,hd,B⟩:=E6 m.hok Z
 have hk:ws.map (·.1)=i.map Sum.inl:=by
  rw[<- Df S,<- AH e3,List.map_fst_zip];omega
 refine Fd (m.ok.hd hc) W B hk hn λr h' tk out x n a1 a2 a3 hsz g3 Y=>?_
 have y:x=sG i:=iL a2 a3;subst y;obtain⟨M,L⟩:=bf (K:=X.K) (H:=upd F r (.lst ((sG i).map V.int))) a1
 have hz:((sG i).map V.int).length<=sizeLine:=by
  rw[V9,(su _).length_eq,sizeLine_eq];omega
 have hf:F r=none:=m.hok.fresh hsz;refine⟨.ref r,upd F r (.lst ((sG i).map V.int)),m.laid (t':=tk) Y hsz ⟨hz,out.toList,n,M,by rw[g3]⟩,rfl,?_⟩;refine q _ _ (w.trans λb u A=>?_) ⟨_,_,rfl,aa,L⟩;rw[ac λz=>by rw[z,hf] at A;cases A];exact A
end
section
variable{X:Cx}{p pos:Pos}{e:WG}{es:List WG}{F:R->V3 LD}{ct:rf}
end
end HW
namespace HW
open PySem
abbrev Ky:=Int ⊕ (Int×Int)
abbrev KI:=List (Ky×D)
def zK(d:D):V3 Ky:=match d with
 | .int i=>some (.inl i)
 | .tup l=>(K5 l).map .inr
 | _=>none
noncomputable def l6:Ky->D
 | .inl i=>.int i
 | .inr p=>.tup [.int p.1,.int p.2]
def zZ(h:zK d=some k):d=l6 k:=by
 cases d<;>try cases h
 ·rfl
 ·obtain⟨p,e,rfl⟩:=q8 h
  cases Il e;rfl
def kin(kv:KI)(k:Ky):Bool:=!kv.isEmpty&&kv.all λp=>p.1.isLeft==k.isLeft
abbrev WU:=R->Nat->KI->LD->V3 (Out×KI×LD)
abbrev WE:=R->Nat->KI->OD
def rq:KI->Ky->OD
 | [],_=>none
 | (k,d)::kv,j=>if k=j then some d else rq kv j
def isAt(i:Nat)(ρ:R)(a:Nat):Prop:=b9 i ρ=some (.obj 1 a [] [])
instance (i:Nat) (ρ:R) (a:Nat):Decidable (isAt i ρ a):=by
 unfold isAt
 match h:b9 i ρ with
 | some (.obj 1 b [] []) =>
  by_cases e:b=a
  ·exact isTrue (by rw[e])
  ·exact isFalse (by intro z;cases z;exact e rfl)
 | none=>exact isFalse (by intro z;cases z)
 | some .non=>exact isFalse (by intro z;cases z)
 | some (.bl _)=>exact isFalse (by intro z;cases z)
 | some (.int _)=>exact isFalse (by intro z;cases z)
 | some (.str _)=>exact isFalse (by intro z;cases z)
 | some (.tup _)=>exact isFalse (by intro z;cases z)
 | some (.lst _)=>exact isFalse (by intro z;cases z)
 | some (.fro _)=>exact isFalse (by intro z;cases z)
 | some (.dct ..)=>exact isFalse (by intro z;cases z)
 | some (.dcp ..)=>exact isFalse (by intro z;cases z)
 | some (.cl ..)=>exact isFalse (by intro z;cases z)
 | some (.obj 0 ..)=>exact isFalse (by intro z;cases z)
 | some (.obj (_+2) ..)=>exact isFalse (by intro z;cases z)
 | some (.obj 1 _ (_::_) _)=>exact isFalse (by intro z;cases z)
 | some (.obj 1 _ [] (_::_))=>exact isFalse (by intro z;cases z)
def HX(u:R->V3 Out):WU:=λρ _ kv ds=>(u ρ).map λo=>(o,kv,ds)
def J5:WU:=λρ _ kv ds=>some (.nx ρ,kv,ds)
def F0(p q:WU):WU:=λρ a kv ds=>(p ρ a kv ds).bind λr=>match r.1 with
 | .nx ρ1=>q ρ1 a r.2.1 r.2.2
 | o=>some (o,r.2)
def TF(c:R->Nat->KI->V3 Bool)(p q:WU):WU:=λρ a kv ds=>(c ρ a kv).bind λb=>if b then p ρ a kv ds else q ρ a kv ds
noncomputable def FD(st:D->R->V3 R)(p:WU):LD->R->Nat->KI->LD->V3 (Out×KI×LD)
 | [],ρ,_,kv,ds=>some (.nx ρ,kv,ds)
 | x::xs,ρ,a,kv,ds=>(st x ρ).bind λρ1=>(p ρ1 a kv ds).bind λr=>match r.1 with
  | .nx ρ2=>FD st p xs ρ2 a r.2.1 r.2.2
  | .ct ρ2=>FD st p xs ρ2 a r.2.1 r.2.2
  | .bk ρ2=>some (.nx ρ2,r.2)
  | .rt d=>some (.rt d,r.2)
def yj(it:R->V3 LD)(st:D->R->V3 R)(p:WU):WU:=λρ a kv ds=>(it ρ).bind λxs=>FD st p xs ρ a kv ds
def NI(i:Nat)(f:R->OD):WU:=λρ _ kv ds=>(f ρ).bind λd=>if ρ.length=i/\ds.length<sizeLine then some (.nx ρ,kv,ds++[d]) else none
def IC(f:R->OD):WE:=λρ _ _=>f ρ
def Bc(i:Nat)(f:R->OD):WE:=λρ a kv=>(f ρ).bind λk=>(zK k).bind λj=>if isAt i ρ a/\kin kv j=true then rq kv j else none
def IO(F:D->D->OD)(f g:WE):WE:=λρ a kv=>(f ρ a kv).bind λx=>(g ρ a kv).bind λy=>F x y
def Lh(i:Nat)(b:R->OD)(g:WE):WU:=λρ a kv ds=>(g ρ a kv).bind λd=>(b ρ).bind λk=>(zK k).bind λj=>if isAt i ρ a/\kin kv j=true/\(rq kv j).isNone/\kv.length<1000 then some (.nx ρ,kv++[(j,d)],ds) else none
def yO(i:Nat)(b:R->OD):R->Nat->KI->V3 Bool:=λρ a kv=>(b ρ).bind λk=>(zK k).bind λj=>if isAt i ρ a/\kin kv j=true then some (rq kv j).isNone else none
def Fs(i:Nat)(p:WU):R->Nat->KI->V3 (D×KI):=λρ a kv=>if ρ.length=i+1 then (p (ρ.take i) a kv []).bind λr=>match r.1 with
 | .nx ρ1=>if ρ1.length=i then some (.lst r.2.2,r.2.1) else none
 | _=>none
 else none
def EW(g:LD->Nat->KI->V3 (D×KI))(c:D):Nat->LD->Nat->KI->V3 KI
 | 0,_,_,_=>none
 | _+1,[],_,kv=>some kv
 | n+1,x::l,a,kv=>(g [.obj 1 a [] [],.lst (x::l),c] a kv).bind λr=>match r.1 with
  | .lst l'=>EW g c n l' a r.2
  | _=>none
noncomputable def k1:Ky->Int ⊕ Str
 | .inl i=>.inl i
 | .inr p=>.inl p.1
def k2:Ky->Int×Int
 | .inl i=>(i,i)
 | .inr p=>p
def sQ(kv:KI):D:=match kv with
 | (.inr _,_)::_=>.dcp (kv.map λp=>k2 p.1) (kv.map λp=>p.2)
 | _=>.dct (kv.map λp=>k1 p.1) (kv.map λp=>p.2)
def rX(a:Nat->Nat->Bool):Nat->Nat
 | 0=>0
 | j+1=>if a (j+1) (rX a j) then j+1 else rX a j
def qQ(xs:List Str)(i j:Nat):Bool:=decide (((xs.getD i Str.empty).length:Int)<((xs.getD j Str.empty).length:Int))
def zy(l:LD):OD:=v9 (λx=>(lI x).bind λds=>(zb ds).bind λxs=>if xs.length<=100000/\xs.all (λx=>decide (x.length<=100000))=true then some (if xs.isEmpty then .non else .str (xs.getD (rX (qQ xs) (xs.length - 1)) Str.empty)) else none) l
def UZ(f g:R->OD):R->OD:=λρ=>(f ρ).bind λx=>(g ρ).bind λy=>(lI x).bind λxs=>(lI y).bind λa=>if xs.length=a.length/\0<xs.length/\xs.length<=1000 then some (.lst (Dk xs a)) else none
def Pr:D->V3 LD
 | .dcp ks _=>some (ks.map λp=>.tup [.int p.1,.int p.2])
 | _=>none
def A6(f:R->OD):R->V3 LD:=λρ=>(f ρ).bind Pr
def PF:List (Int×Int)->LD->Int×Int->OD
 | k::ks,d::ds,j=>if k=j then some d else PF ks ds j
 | _,_,_=>none
def Uk:D->V3 (List (Int×Int)×LD)
 | .dcp ks ds=>some (ks,ds)
 | _=>none
def Lo(x y:D):OD:=(Uk x).bind λp=>(tI y).bind λl=>(K5 l).bind (PF p.1 p.2)
def xT(g:LD->Nat->KI->V3 (D×KI))(n i j:Nat)(e:D):R->V3 Out:=λρ=>if ρ.length=n then (b9 i ρ).bind λs=>(b9 j ρ).bind λc=>(zK s).bind λk =>
 open Classical in if h:∃kv:KI,kv ≠ []/\∀a,EW g c 100 [s] a [(k,e)]=some kv then some (.rt (sQ h.choose)) else none
 else none
def Az{n i j:Nat}(h0:ρ.length=n)(h1:b9 i ρ=some s)(l:b9 j ρ=some c)(f:zK s=some k)(d:kv ≠ [])(h:∀a,EW g c 100 [s] a [(k,e)]=some kv) :
  xT g n i j e ρ=some (.rt (sQ kv)):=by
 unfold xT;rw[Wc h0,h1,Wa,l,Wa,f,Wa];have b:∃kv:KI,kv ≠ []/\∀a,EW g c 100 [s] a [(k,e)]=some kv:=⟨kv,d,h⟩
 rw[dif_pos b]
 have:b.choose=kv:=by
  have z:=b.choose_spec.2 0;rw[h 0] at z;exact(Wq z).symm
 rw[this]
def KO{n i j:Nat}(h:xT g n i j e ρ=some o):ρ.length=n/\∃s c k kv,b9 i ρ=some s/\b9 j ρ=some c/\zK s=some k/\kv ≠ []/\(∀a,EW g c 100 [s] a [(k,e)]=some kv)/\o=.rt (sQ kv):=by
 unfold xT at h;split at h
 case isFalse=>cases h
 case isTrue h0 =>
 refine⟨h0,?_⟩;cases l:b9 i ρ with
 | none=>rw[l] at h;cases h
 | some s =>
  rw[l,Wa] at h;cases f:b9 j ρ with
  | none=>rw[f] at h;cases h
  | some c =>
   rw[f,Wa] at h;cases d:zK s with
   | none=>rw[d] at h;cases h
   | some k =>
    rw[d,Wa] at h;split at h
    ·rename_i b
     cases h;exact⟨s,c,k,b.choose,rfl,rfl,d,b.choose_spec.1,b.choose_spec.2,rfl⟩
    ·cases h
def Dm{i:Nat}{ρ:R}{d:D}(h:i<ρ.length):b9 i (ρ.set i (some d))=some d:=by
 show(List.set ρ i (some d)).getD i none=some d;rw[Wn,Xl h];rfl
def yF{i j:Nat}(h:i≠j):b9 j (ρ.set i d)=b9 j ρ:=by
 show(List.set ρ i d).getD j none=List.getD ρ j none;rw[Wn,W7 h,<- Wn]
end HW
namespace HW
open PySem PySem.Spec PyProof.Rows L2
def I_(P:Wr)(w:WC)(d:V_)(xs:List ((Int×Int)×V_×V)):HO:=.ext λh=>(d==sysModules)=false/\∃o,h.get? d=some o/\Lp P w o xs
abbrev kk(p:Int×Int):List Key:=[.inl p.1,.inl p.2]
section
variable{K:Wb}{H H':Hp}
def u6(K:Wb)(H:Hp):KI->List (Key×V)->Prop
 | [],xs=>xs=[]
 | (k,d)::kv,xs=>∃i v r,k=.inl i/\xs=(Sum.inl i,v)::r/\Rep K H d v/\u6 K H kv r
def uD(K:Wb)(H:Hp):KI->List ((Int×Int)×V_×V)->Prop
 | [],xs=>xs=[]
 | (k,d)::kv,xs=>∃p a v r,k=.inr p/\xs=(p,a,v)::r/\tS K H a [.int p.1,.int p.2]/\Rep K H d v/\uD K H kv r
theorem u6.kp(s:Kp H H'):∀{kv:KI} {xs:List (Key×V)},u6 K H kv xs->u6 K H' kv xs
 | [],_,h=>h
 | (k,d)::kv,_,h=>by
  obtain⟨i,v,r,a,e,q,t⟩:=h;exact⟨i,v,r,a,e,q.kp s,u6.kp s t⟩
theorem uD.kp(s:Kp H H'):∀{kv:KI} {xs:List ((Int×Int)×V_×V)},uD K H kv xs->uD K H' kv xs
 | [],_,h=>h
 | (k,d)::kv,_,h=>by
  obtain⟨p,a,v,r,c,e,b,q,t⟩:=h;exact⟨p,a,v,r,c,e,s.tup b,q.kp s,uD.kp s t⟩
theorem u6.snoc:∀{kv:KI} {xs:List (Key×V)} {k:Int} {d:D} {v:V},u6 K H kv xs->Rep K H d v->u6 K H (kv++[(.inl k,d)]) (xs++[(Sum.inl k,v)])
 | [],_,k,d,v,h,r=>by cases (show _=[] from h);exact⟨k,v,[],rfl,rfl,r,rfl⟩
 | (k',d')::kv,_,k,d,v,h,r=>by
  obtain⟨c,a,b,e,rfl,q,t⟩:=h;exact⟨c,a,b++[(Sum.inl k,v)],e,rfl,q,u6.snoc t r⟩
theorem uD.snoc:∀{kv:KI} {xs:List ((Int×Int)×V_×V)} {k:Int×Int} {d:D} {a:V_} {v:V},uD K H kv xs->tS K H a [.int k.1,.int k.2]->Rep K H d v->uD K H (kv++[(.inr k,d)]) (xs++[(k,a,v)])
 | [],_,k,d,a,v,h,q,r=>by cases (show _=[] from h);exact⟨k,a,v,[],rfl,rfl,q,r,rfl⟩
 | (k',d')::kv,_,k,d,a,v,h,q,r=>by
  obtain⟨p',i,b,c,e,rfl,f,g,t⟩:=h;exact⟨p',i,b,c++[(k,a,v)],e,rfl,f,g,uD.snoc t q r⟩
theorem u6.len:∀{kv:KI} {xs:List (Key×V)},u6 K H kv xs->kv.length=xs.length
 | [],_,h=>by cases (show _=[] from h);rfl
 | (k,d)::kv,_,h=>by
  obtain⟨i,v,r,_,rfl,q,t⟩:=h;rw[WH,WH,u6.len t]
theorem uD.len:∀{kv:KI} {xs:List ((Int×Int)×V_×V)},uD K H kv xs->kv.length=xs.length
 | [],_,h=>by cases (show _=[] from h);rfl
 | (k,d)::kv,_,h=>by
  obtain⟨p,a,v,r,_,rfl,_,q,t⟩:=h;rw[WH,WH,uD.len t]
theorem u6.at:∀{kv:KI} {xs:List (Key×V)} {j:Int},u6 K H kv xs->(rq kv (.inl j)=none/\vY xs (Sum.inl j:Key)=none)\/∃d v,rq kv (.inl j)=some d/\vY xs (Sum.inl j:Key)=some v/\Rep K H d v
 | [],_,j,h=>by cases (show _=[] from h);exact .inl ⟨rfl,rfl⟩
 | (k,d)::kv,_,j,h=>by
  obtain⟨i,v,r,rfl,rfl,q,t⟩:=h;by_cases a:i=j
  ·refine .inr ⟨d,v,Wc (by rw[a]),?_,q⟩
   show((List.find? _ ((Sum.inl i,v)::r)).map _)=_;rw[List.find?_cons_of_pos (by simpa using a)];rfl
  ·have c:rq ((.inl i,d)::kv) (.inl j)=rq kv (.inl j):=Wu (λz=>a (Sum.inl.inj z))
   have b:vY ((Sum.inl i,v)::r) (Sum.inl j:Key)=vY r (Sum.inl j:Key):=by
    show((List.find? _ ((Sum.inl i,v)::r)).map _)=_;rw[List.find?_cons_of_neg (by simpa using a)];rfl
   rw[c,b];exact u6.at t
def Ki(h:kk p=kk q):p=q:=by
 have h1:=List.cons.inj h;have a:=List.cons.inj h1.2;exact Prod.ext (Sum.inl.inj h1.1) (Sum.inl.inj a.1)
theorem uD.at:∀{kv:KI} {xs:List ((Int×Int)×V_×V)} {g:List (List Key×V_×V5)} {j:Int×Int},uD K H kv xs->FU xs g->(rq kv (.inr j)=none/\atKey g (kk j)=none)\/∃d v a u,rq kv (.inr j)=some d/\atKey g (kk j)=some (a,u)/\RelV v u/\Rep K H d v
 | [],_,_,j,h,r=>by
  cases (show _=[] from h);cases r;exact .inl ⟨rfl,rfl⟩
 | (k,d)::kv,_,g,j,h,r=>by
  obtain⟨p,a,v,s,rfl,rfl,w,q,t⟩:=h;cases r with
  | @cons _ b _ ls e rt =>
  obtain⟨n,f,c⟩:=b;obtain⟨l,m,o⟩:=e;cases (show n=_ from l);by_cases i:p=j
  ·subst i
   refine .inr ⟨d,v,f,c,Wc rfl,?_,o,q⟩;show((List.find? _ ((kk p,f,c)::ls)).map _)=_;rw[List.find?_cons_of_pos (by simp)];rfl
  ·have l:rq ((.inr p,d)::kv) (.inr j)=rq kv (.inr j):=Wu (λz=>i (Sum.inr.inj z))
   have m:atKey ((kk p,f,c)::ls) (kk j)=atKey ls (kk j):=by
    show((List.find? _ ((kk p,f,c)::ls)).map _)=_;rw[List.find?_cons_of_neg (by simpa using λz=>i (Ki z))];rfl
   show(rq ((.inr p,d)::kv) (.inr j)=none/\atKey ((kk p,f,c)::ls) (kk j)=none)\/∃d' v a u,rq ((.inr p,d)::kv) (.inr j)=some d'/\atKey ((kk p,f,c)::ls) (kk j)=some (a,u)/\RelV v u/\Rep K H d' v;rw[l,m];exact uD.at t rt
end
def tR(P:Wr)(w:WC)(K:Wb)(H:Hp)(d:V_)(kv:KI):Prop:=(∃xs,H d=some (DA P w d xs)/\u6 K H kv xs)\/∃xs,H d=some (I_ P w d xs)/\uD K H kv xs
section
variable{P:Wr}{w:WC}{K:Wb}{H H':Hp}{d a:V_}{kv:KI}
def tR.mono(h:tR P w K H d kv)(s:g6 H H'):tR P w K H' d kv:=by
 rcases h with ⟨xs,h1,b⟩ | ⟨xs,h1,b⟩
 ·exact .inl ⟨xs,s _ _ h1,b.kp (Kp.of s)⟩
 ·exact .inr ⟨xs,s _ _ h1,b.kp (Kp.of s)⟩
def tR.move(h:tR P w K H d kv)(s:sj a H H')(c:d≠a)(k:Kp H H'):tR P w K H' d kv:=by
 rcases h with ⟨xs,h1,b⟩ | ⟨xs,h1,b⟩
 ·exact .inl ⟨xs,s _ _ c h1,b.kp k⟩
 ·exact .inr ⟨xs,s _ _ c h1,b.kp k⟩
theorem tR.ext(h:tR P w K H d kv):∃ b,H d=some (.ext b):=by
 rcases h with ⟨xs,h1,c⟩ | ⟨xs,h1,c⟩
 ·exact⟨_,h1⟩
 ·exact⟨_,h1⟩
def tR.kp(h:tR P w K H d kv)(s:sj d H H'):Kp H H':=λb u e n=>by
 obtain⟨f,h1⟩:=h.ext;by_cases c:b=d
 ·subst c;rw[h1] at e;cases e;exact Wz rfl (n _)
 ·exact s b u c e
def iE(h:H d=some o):upd (upd H d u) d o=H:=by
 funext b;unfold upd;by_cases e:b=d
 ·rw[Wc e,e,h]
 ·rw[Wu e,Wu e]
end
section
variable{X:Cx}{pins:List (V_×Obj)}{σ:L2.St}{H:Hp}{s:V7}{d:V_}{kv:KI}{A:WM}{E:V5->V7->Prop}
def A2(I:L2.Inv X pins σ H s)(h:tS X.K H a [.int p.1,.int p.2]):(tupleKind (l7 X.prog X.w)).is s.heap (kk p) a:=by
 obtain⟨b,r,⟨o,e,c,n,dd⟩,_⟩:=I.tuple h;exact⟨o,b.toArray,n,e,c,dd,by simpa using yQ (P:=X.prog) (w:=X.w) (ks:=kk p) r⟩
theorem Hj(I:L2.Inv X pins σ H s):∀{kv:KI} {xs:List ((Int×Int)×V_×V)} {f:List (List Key×V_×V5)},uD X.K H kv xs->FU xs f->∀x∈f,(tupleKind (l7 X.prog X.w)).is s.heap x.1 x.2.1
 | [],_,_,h,r,x,c=>by
  cases (show _=[] from h);cases r;cases c
 | (k,dd)::kv,_,f,h,r,x,c=>by
  obtain⟨p,a,v,i,rfl,rfl,g,q,t⟩:=h;cases r with
  | @cons _ b _ ls e rt =>
  rcases Wo.mp c with rfl | c
  ·rw[e.1,e.2.1]
   exact A2 I g
  ·exact Hj I t rt x c
def gb(I:L2.Inv X pins σ H s)(h:H d=some (I_ X.prog X.w d xs))(r:uD X.K H kv xs):(d==sysModules)=false/\xs.length<=sizeLine/\∃a,FU xs a/\s.heap.DictOfH (tupleKind (l7 X.prog X.w)) d a:=by
 obtain⟨hd,o,g,z,a,es,i,h1,f,e,c,b⟩:=(I.hok d _ h).1;exact⟨hd,z,a,h1,o,es,i,g,f,e,c,Hj I r h1,b⟩
def yP(h:kin kv k=true)(D:tR X.prog X.w X.K H d kv):(∃j xs,k=.inl j/\H d=some (DA X.prog X.w d xs)/\u6 X.K H kv xs)\/∃p xs,k=.inr p/\H d=some (I_ X.prog X.w d xs)/\uD X.K H kv xs:=by
 unfold kin at h;rw[Wj] at h
 match kv,h,D with
 | (k',d')::kv,h,D =>
  rw[W9,Wj] at h;have c:=h.2.1;rcases D with ⟨xs,h1,b⟩ | ⟨xs,h1,b⟩
  ·obtain⟨i,v,r,e,_⟩:=id b
   subst e;cases k with
   | inl j=>exact .inl ⟨j,xs,rfl,h1,b⟩
   | inr p=>exact Wz (show(false:Bool)=true from c) We
  ·obtain⟨i,a,v,r,e,_⟩:=id b
   subst e;cases k with
   | inl j=>exact Wz (show(false:Bool)=true from c) We
   | inr p=>exact .inr ⟨p,xs,rfl,h1,b⟩
def ye(h:Rep X.K H (l6 k) y):(∃i,k=.inl i/\y=.int i)\/∃p a,k=.inr p/\y=.ref a/\tS X.K H a [.int p.1,.int p.2]:=by
 cases k with
 | inl i=>exact .inl ⟨i,rfl,h⟩
 | inr p =>
  obtain⟨a,xs,rfl,f,c,r1,rfl,h1,b,e,rfl,j,g⟩:=h;cases (show c=_ from h1);cases (show b=_ from j);cases (show e=_ from g);exact .inr ⟨p,a,rfl,rfl,f⟩
def QR(r:A.units+1<cLine)(I:L2.Inv X pins σ H s)(D:tR X.prog X.w X.K H d kv)(J:kin kv k=true)(b:rq kv k=some x)(q:Rep X.K H (l6 k) y)(o:RelV y u)
  (h:∀v f n,L2.Inv X pins σ H n->RelV v f->Rep X.K H x v->Q f n):s.TypeIs (.ref d) "dict" /\ wpAny (model X.prog X.w) A (getItem (.ref d) u) Q E s:=by
 rcases yP J D with ⟨j,xs,rfl,h1,i⟩ | ⟨p,xs,rfl,h1,i⟩
 ·cases (show y=_ from q)
  have t:=Kj I h1;rcases u6.at (j:=j) i with ⟨c,_⟩ | ⟨d',v,c,m,C⟩
  ·rw[c] at b;cases b
  ·rw[c] at b;cases b
   have g:Dl (upd H d (.dK xs)) d (kV (.inl j)) (some v):=by rw[<- m];exact Dl.k aa
   refine⟨ER t g,j9 r t g o λf s3 O l=>h v f s3 ?_ l C⟩;have:=zT O aa;rw[iE h1] at this;exact this
 ·rcases ye q with ⟨_,e,_⟩ | ⟨p',a,e,rfl,F⟩
  ·cases e
  ·cases e
   cases (show u=_ from o);obtain⟨hd,z,P,G,dd⟩:=gb I h1 i;rcases uD.at (j:=p) i G with ⟨c,_⟩ | ⟨d',v,S,B,c,N,M,L⟩
   ·rw[c] at b;cases b
   ·rw[c] at b;cases b
    exact⟨dd.typeIs,wpAny_getItem_heap (tupleKind_room_in1 r) (A2 I F) dd N (h v B _ (I.tok _) M L)⟩
def Kr(n:A.units+1<cLine)(I:L2.Inv X pins σ H s)(D:tR X.prog X.w X.K H d kv)(t:kin kv k=true)(m:Rep X.K H (l6 k) y)(l:RelV y u)
  (h:∀i,L2.Inv X pins σ H i->Q (.bool (rq kv k).isNone) i):wpAny (model X.prog X.w) A (compareOp .NotIn u (.ref d)) Q E s:=by
 rcases yP t D with ⟨j,xs,rfl,h1,f⟩ | ⟨p,xs,rfl,h1,f⟩
 ·cases (show y=_ from m)
  have B:=Kj I h1;have g:Dl (upd H d (.dK xs)) d (kV (.inl j)) (vY xs (Sum.inl j:Key)):=Dl.k aa;refine mR n B g l λs3 x=>?_
  have:=zT x aa;rw[iE h1] at this;have q:=h s3 this;rcases u6.at (j:=j) f with ⟨c,b⟩ | ⟨d',C,c,b,_⟩
  ·rw[c] at q;rw[b];exact q
  ·rw[c] at q;rw[b];exact q
 ·rcases ye m with ⟨_,e,_⟩ | ⟨p',a,e,rfl,o⟩
  ·cases e
  ·cases e
   cases (show u=_ from l);obtain⟨hd,z,G,r,dd⟩:=gb I h1 f;refine wpAny_notIn_heap (tupleKind_room_in1 n) (A2 I o) hd dd ?_;have q:=h _ (I.tok (s.toks+(tupleKind (l7 X.prog X.w)).draws (kk p)));rcases uD.at (j:=p) f r with ⟨c,b⟩ | ⟨d',v,M,F,c,b,L,J⟩
   ·rw[c] at q;rw[b];exact q
   ·rw[c] at q;rw[b];exact q
def FU.snoc(h:FU xs b)(r:RelV v u):FU (xs++[(p,a,v)]) (b++[(kk p,a,u)]):=by
 induction h with
 | nil=>exact .cons ⟨rfl,rfl,r⟩ .nil
 | cons e t ih=>exact .cons e ih
def FU.len(h:FU xs a):xs.length=a.length:=by
 induction h with
 | nil=>rfl
 | cons e t ih=>rw[WH,WH,ih]
def FG(hd:(d==sysModules)=false)(z:xs.length<=sizeLine)(c:FU xs a)(dd:h.DictOfH (tupleKind (l7 X.prog X.w)) d a):rO X.prog X.w H h d (I_ X.prog X.w d xs):=by
 obtain⟨o,es,j,g,b,i,f,_,e⟩:=dd;refine⟨⟨hd,o,g,z,a,es,j,c,b,i,f,e⟩,⟨o,g⟩,?_⟩;rintro h1 b ⟨n,o,m,l⟩ k;exact⟨n,o,k o m,l⟩
def QZ(M:A.units+1<cLine)(I:L2.Inv X pins σ H s)(D:tR X.prog X.w X.K H d kv)(W:kin kv k=true)(n:(rq kv k).isNone=true)(O:kv.length<1000)(L:Rep X.K H (l6 k) y)(F:RelV y u)(G:Rep X.K H x v)(J:RelV v r)
  (h:∀B C,L2.Inv X pins σ B C->sj d H B->tR X.prog X.w X.K B d (kv++[(k,x)])->Q () C):wpAny (model X.prog X.w) A (setItem (.ref d) u r) Q E s:=by
 rcases yP W D with ⟨j,xs,rfl,h1,c⟩ | ⟨p,xs,rfl,h1,c⟩
 ·cases (show y=_ from L)
  have I4:=Kj I h1
  have b:vY xs (Sum.inl j:Key)=none:=by
   rcases u6.at (j:=j) c with ⟨_,m⟩ | ⟨d',v',m,_,_⟩
   ·exact m
   ·rw[m] at n;cases n
  have hz:xs.length<sizeLine:=by rw[<- c.len];exact Wv O (by decide)
  have g:L9 (upd H d (.dK xs)) d (kV (.inl j)) v (upd (upd H d (.dK xs)) d (.dK (putK xs (Sum.inl j:Key) v))):=L9.k aa hz;rw[Lf v b] at g;refine jY M I4 g F J λs4 Z=>?_
  have S:=zT Z aa;generalize l:upd (upd (upd H d (.dK xs)) d (.dK (xs++[(Sum.inl j,v)]))) d (DA X.prog X.w d (xs++[(Sum.inl j,v)]))=H6 at S
  have i:sj d H H6:=by
   subst l;exact sj.upd.trans (sj.upd.trans sj.upd)
  have t:H6 d=some (DA X.prog X.w d (xs++[(Sum.inl j,v)])):=by subst l;exact aa
  have kp:=D.kp i;exact h H6 s4 S i (.inl ⟨_,t,(c.kp kp).snoc (G.kp kp)⟩)
 ·rcases ye L with ⟨_,e,_⟩ | ⟨p',a,e,rfl,N⟩
  ·cases e
  ·cases e
   cases (show u=_ from F);obtain⟨hd,z,T,o,dd⟩:=gb I h1 c
   have b:atKey T (kk p)=none:=by
    rcases uD.at (j:=p) c o with ⟨_,P⟩ | ⟨d',v,a',u',m,P,h4,h5⟩
    ·exact P
    ·rw[m] at n;cases n
   have hz:xs.length<1000:=by rw[<- c.len];exact O
   have zz:1000<=sizeLine:=by decide
   refine wpAny_setItem_heap (tupleKind_room_in1 M) (A2 I N) dd (λh' f U=>?_) (by rw[<- o.len];omega);rw[storedH_new b] at f;have k1:sj d H (upd H d (I_ X.prog X.w d (xs++[(p,a,v)]))):=sj.upd;have kp:=D.kp k1;have Y:∃q,h'.get? d=some q:=let ⟨q,_,_,g,_⟩:=f;⟨q,g⟩;exact h _ _ (dl I (by rw[h1];trivial) U Y (FG hd (by rw[WB];show xs.length+1<=_;omega) (o.snoc J) f)) k1 (.inr ⟨_,aa,(c.kp kp).snoc (kp.tup N) (G.kp kp)⟩)
theorem Fu{K:Wb}{H:Hp}:∀{kv:KI} {xs:List (Key×V)},u6 K H kv xs->∃a,xs=(kv.map λp=>k1 p.1).zip a/\kv.length=a.length/\g7 K H (kv.map λp=>p.2) a
 | [],_,h=>by cases (show _=[] from h);exact⟨[],rfl,rfl,rfl⟩
 | (k,d)::kv,_,h=>by
  obtain⟨i,v,r,rfl,rfl,q,t⟩:=h;obtain⟨a,rfl,c,b⟩:=Fu t;exact⟨v::a,rfl,by simp[c],v,a,rfl,q,b⟩
theorem Fw{K:Wb}{H:Hp}:∀{kv:KI} {xs:List ((Int×Int)×V_×V)},uD K H kv xs->∃b c,xs=(kv.map λp=>k2 p.1).zip (b.zip c)/\b.length=c.length/\w_ K H (kv.map λp=>k2 p.1) b/\g7 K H (kv.map λp=>p.2) c
 | [],_,h=>by cases (show _=[] from h);exact⟨[],[],rfl,rfl,rfl,rfl⟩
 | (k,d)::kv,_,h=>by
  obtain⟨p,a,v,r,rfl,rfl,f,q,t⟩:=h;obtain⟨b,c,rfl,g,i,e⟩:=Fw t;exact⟨a::b,v::c,rfl,by simp[g],⟨a,b,rfl,f,i⟩,v,c,rfl,q,e⟩
def PX(I:L2.Inv X pins σ H s)(D:tR X.prog X.w X.K H d kv)(h:kv ≠ []):∃m,L2.Inv X pins σ m s/\sj d H m/\Rep X.K m (sQ kv) (.ref d):=by
 rcases D with ⟨xs,h1,a⟩ | ⟨xs,h1,a⟩
 ·obtain⟨z,hd,b,r,dd⟩:=jA I h1
  obtain⟨o,es,C,e,n⟩:=id dd;have l:=I.write (t':=s.toks) (h':=s.heap) (o:=.frz o (.dK xs)) (x:=d) (e:=d) (by rw[h1];trivial) (.inl rfl) (λ_ _ _ q=>q) ⟨_,e⟩ ⟨e,z,hd,b,r,dd⟩;have k1:sj d H (upd H d (.frz o (.dK xs))):=sj.upd;have kp:Kp H _:=tR.kp (.inl ⟨xs,h1,a⟩) k1;obtain⟨ws,ex,v,c⟩:=Fu (a.kp kp);refine⟨_,l,k1,?_⟩
  have j:sQ kv=.dct (kv.map λp=>HW.k1 p.1) (kv.map λp=>p.2):=by
   cases kv with
   | nil=>rfl
   | cons q kv =>
    obtain⟨i,_,_,e,_⟩:=a;obtain⟨k,dd⟩:=q;cases (show k=_ from e);rfl
  rw[j];exact⟨d,ws,rfl,⟨by rw[V9];exact v,o,by rw[<- ex];exact aa⟩,c⟩
 ·obtain⟨hd,o,g,t⟩:=(I.hok d _ h1).1
  have l:=I.write (t':=s.toks) (h':=s.heap) (o:=.frz o (.own 0)) (x:=d) (e:=d) (by rw[h1];trivial) (.inl rfl) (λ_ _ _ q=>q) ⟨_,g⟩ ⟨g,o,g⟩;have k1:sj d H (upd H d (.frz o (.own 0))):=sj.upd;have kp:Kp H _:=tR.kp (.inr ⟨xs,h1,a⟩) k1;obtain⟨f,b,ex,y,B,u⟩:=Fw (a.kp kp);refine⟨_,l,k1,?_⟩
  have j:sQ kv=.dcp (kv.map λp=>k2 p.1) (kv.map λp=>p.2):=by
   cases kv with
   | nil=>exact Wz rfl h
   | cons q kv =>
    obtain⟨i,_,_,_,e,_⟩:=a;obtain⟨k,dd⟩:=q;cases (show k=_ from e);rfl
  rw[j];exact⟨d,f,b,rfl,⟨⟨hd,B,y⟩,o,X.prog,X.w,aa,by rw[<- ex];exact t⟩,u⟩
end
section
variable{K:Wb}{H H':Hp}
def yk(d a:V_)(H H':Hp):Prop:=∀b u,b≠d->b≠a->H b=some u->H' b=some u
def yk.of(h:g6 H H'):yk d a H H':=λb u _ _ e=>h b u e
def yk.trans(h:yk d a H f)(h':yk d a f c):yk d a H c:=λb u n m e=>h' b u n m (h b u n m e)
theorem yk.d{d a:V_}(h:sj d H H'):yk d a H H':=λb u n _ e=>h b u n e
theorem yk.a{d a:V_}(h:sj a H H'):yk d a H H':=λb u _ m e=>h b u m e
def JY(P:Wr)(w:WC)(K:Wb)(H:Hp)(d a:V_)(kv:KI)(ds:LD):Prop:=d≠a/\tR P w K H d kv/\∃b,H a=some (uw a b)/\g7 K H ds b
theorem JY.mono(h:JY P w K H d a kv ds)(s:g6 H H'):JY P w K H' d a kv ds:=by
 obtain⟨n,h1,b,e,c⟩:=h;exact⟨n,h1.mono s,b,s _ _ e,c.mono s⟩
def JY.kp(h:JY P w K H d a kv ds)(s:yk d a H H'):Kp H H':=λb u e n=>by
 obtain⟨_,h1,j,g,_⟩:=h;obtain⟨i,h1⟩:=h1.ext;by_cases f:b=d
 ·subst f;rw[h1] at e;cases e;exact Wz rfl (n _)
 ·by_cases c:b=a
  ·subst c;rw[g] at e;cases e;exact Wz rfl (n _)
  ·exact s b u f c e
end
section
variable(P:Wr)(w:WC)(K:Wb)
def tW(u:WU):TS:=λE g H=>∃ ρ f d a kv ds o b c,r_ K H ρ (some (.ref a)::f) g/\JY P w K H d a kv ds/\u ρ d kv ds=some (o,b,c)/\∀e,yk d a H e->JY P w K e d a b c->fin K E (some (.ref a)::f) o e
def VW(g:WE):TE:=λe H Q=>∃ ρ c d a kv ds x,r_ K H ρ (some (.ref a)::c) e/\JY P w K H d a kv ds/\g ρ d kv=some x/\∀v b,g6 H b->Rep K b x v->Q v b
def VJ(g:R->Nat->KI->V3 Bool):TT:=λf H Q=>∃ ρ e d a kv ds b,r_ K H ρ (some (.ref a)::e) f/\JY P w K H d a kv ds/\g ρ d kv=some b/\∀c,g6 H c->Q b c
end
def WJ(X:Cx)(st:Xi)(u:WU):Prop:=PS X st (tW X.prog X.w X.K u)
def Qd(X:Cx)(a:List Xi)(u:WU):Prop:=PSs X a (tW X.prog X.w X.K u)
def Rz(X:Cx)(e:WG)(g:WE):Prop:=PE X e (VW X.prog X.w X.K g)
def Vq(X:Cx)(e:WG)(g:R->Nat->KI->V3 Bool):Prop:=PT X e (VJ X.prog X.w X.K g)
section
variable{X:Cx}{st:Xi}{sts:List Xi}{u:R->V3 Out}{p q:WU}{pos:Pos}{e:WG}{f:R->OD}
def N1(h:S1 X st u):WJ X st (HX u):=PS.imp h λE r H b=>by
 obtain⟨ρ,n,d,a,kv,ds,o,g,l,i,W,e,c⟩:=b;obtain⟨t,k,j⟩:=q8 e;cases j;exact⟨ρ,_,o,i,k,λm s=>c m (yk.of s) (W.mono s)⟩
def NK:Qd X [] J5:=Ab.imp λE c H b=>by
 obtain⟨ρ,k,d,a,kv,ds,o,h,j,i,W,e,g⟩:=b;cases e;exact g H (yk.of (g6.refl H)) W c i
def Fl(h1:WJ X st p)(t:Qd X sts q):Qd X (st::sts) (F0 p q):=(aS h1 t).imp λE A H j=>by
 obtain⟨ρ,n,d,a,kv,ds,o,i,l,v,W,e,g⟩:=j;obtain⟨⟨r,b,c⟩,w,e⟩:=d7 e;refine⟨ρ,n,d,a,kv,ds,r,b,c,v,W,w,λm k1 h=>?_⟩;cases r with
 | nx ρ2=>exact λs k=>⟨ρ2,n,d,a,b,c,o,i,l,k,h,e,λz k2 y=>g z (k1.trans k2) y⟩
 | rt x=>cases e;exact g m k1 h
 | bk ρ2=>cases e;exact g m k1 h
 | ct ρ2=>cases e;exact g m k1 h
def DM(h:WJ X st p):Qd X [st] p:=bK h
def S9(r:Vq X c s)(v:Qd X n p)(t:Qd X m q):WJ X (.If c n m pos) (TF s p q):=(jU r v t).imp λE y H i=>by
 obtain⟨ρ,h,d,a,kv,ds,o,b,g,j,W,e,l⟩:=i;obtain⟨x,w,e⟩:=d7 e;refine⟨ρ,h,d,a,kv,ds,x,j,W,w,λz s1=>?_⟩;cases x with
 | true=>rw[Wc rfl] at e ⊢;exact⟨ρ,h,d,a,kv,ds,o,b,g,j.mono s1,W.mono s1,e,λk k2=>l k ((yk.of s1).trans k2)⟩
 | false=>rw[Wu We] at e ⊢;exact⟨ρ,h,d,a,kv,ds,o,b,g,j.mono s1,W.mono s1,e,λk k2=>l k ((yk.of s1).trans k2)⟩
def Kk(hp:PassesOwn (model X.prog X.w) X.A X.env X.xe)(hc:X.calm=true)(U:SI X tg iter it)(hg:SG X tg g)(hb:Qd X B p)
  (hs:∀x,foldedSetIterable iter X.env x=pure x:=by intro _;rfl):WJ X (.For tg iter B [] pos) (yj it g p):=(jk hp hc U hg hb hs).imp λE σ H N=>by
 obtain⟨ρ,L,d,a,kv,ls,o,z,v,Y,W,e,q⟩:=N;obtain⟨ds,e1,e⟩:=d7 e;refine⟨ρ,ds,Y.1,e1,λJ I s1 y=>?_⟩
 refine⟨λi m s n=>m=ds.length - i/\i<=ds.length/\yk d a I n/\∃ ρ' k l,r_ X.K n ρ' (some (.ref a)::L) s/\JY X.prog X.w X.K n d a k l/\FD g p (ds.drop i) ρ' d k l=some (o,z,v),
  ⟨ds.length,by simp,W4 _,yk.of (g6.refl _),ρ,kv,ls,Y.mono s1,W.mono s1,by simpa using e⟩,?_⟩
 rintro i m s n ⟨rfl,U,s2,ρ',k,l,C,Z,c⟩;have kp:Kp I n:=(W.mono s1).kp s2;by_cases j:i<ds.length
 ·refine .inr ?_
  have hd:ds[i]?=some ds[i]:=by simp[j]
  obtain⟨O,hy⟩:=y.1 i ds[i] n kp hd;rw[W6 j] at c;obtain⟨ρ1,e2,c⟩:=d7 c;obtain⟨⟨S,k1,M⟩,e3,c⟩:=d7 c
  refine⟨O,λt G=>i+1<=ds.length/\yk d a I G/\∃ ρ' k l,r_ X.K G ρ' (some (.ref a)::L) t/\JY X.prog X.w X.K G d a k l/\FD g p (ds.drop (i+1)) ρ' d k l=some (o,z,v),
   λt G T=>⟨ds.length - (i+1),by omega,rfl,T.1,T.2⟩,λx H3 yx=>?_⟩
  obtain⟨s3,rx⟩:=hy x H3 yx;refine⟨ρ',_,ds[i],ρ1,C.mono s3,rx,e2,λσ4 H4 s4 P=>⟨ρ1,L,d,a,k,l,S,k1,M,P,(Z.mono s3).mono s4,e3,λQ k5 F=>?_⟩⟩;have h:yk d a I Q:=s2.trans ((yk.of s3).trans ((yk.of s4).trans k5));cases S with
  | nx ρ2=>exact λr b=>⟨j,h,ρ2,k1,M,b,F,c⟩
  | ct ρ2=>exact λr b=>⟨j,h,ρ2,k1,M,b,F,c⟩
  | bk ρ2=>cases c;exact λr b=>q Q ((yk.of s1).trans h) F r b
  | rt d=>cases c;exact q Q ((yk.of s1).trans h) F
 ·have e4:i=ds.length:=by omega
  subst e4;rw[List.drop_length] at c;cases c;exact .inl ⟨y.2 _ n kp (Wl _),q n ((yk.of s1).trans s2) Z s C⟩
def S2(h:SE X e f):Rz X e (IC f):=PE.imp h λi H Q b=>by obtain⟨ρ,g,d,a,kv,ds,x,c,W,e,q⟩:=b;exact⟨ρ,x,c.1,e,q⟩
def Sg(r:Pv X (binaryOp k) F)(t:Rz X a g)(s:Rz X b h):Rz X (.BinOp a k b pos) (IO F g h):=(oh r t s).imp λC H Q i=>by
 obtain⟨ρ,j,d,c,kv,ds,x,l,W,e,q⟩:=i;obtain⟨y,A,e⟩:=d7 e;obtain⟨z,w,e⟩:=d7 e;exact⟨ρ,j,d,c,kv,ds,y,l,W,A,λv I s1 r1=>⟨ρ,j,d,c,kv,ds,z,l.mono s1,W.mono s1,w,λE G s2 o=>⟨y,z,x,r1.mono s2,o,e,λm B s3 n=>q m B ((s1.trans s2).trans s3) n⟩⟩⟩
def obj_at{K:Wb}{i:Nat}(g:r_ K H ρ c b)(h:isAt i ρ d):b[i]?=some (some (.ref d)):=by
 obtain⟨v,a,r⟩:=g.1.at h;cases (show v=_ from r);exact a
def PJ(i:Nat)(L:X.A.units+1<cLine)(S:SE X e f)(M:QO e:=by exact λ_ _=>rfl)(T:X.N[i]?=some x:=by rfl)(J:Do X.env.scope x:=by first | exact Or.inl rfl | exact Or.inr (Or.inl rfl) | exact Or.inr (Or.inr rfl))(hd:(x==("__debug__" : Str))=false:=by decide)(o:(x==("__classdict__" : Str))=false:=by decide) :
  Rz X (.Subscript (.Name x w) e pos) (Bc i f):=by
 intro c s r H Q I b;obtain⟨ρ,τ,d,a,kv,ds,y0,z,W,g,q⟩:=b;obtain⟨B,e1,g⟩:=d7 g;obtain⟨j,Y,g⟩:=d7 g;split at g
 case isFalse=>cases g
 case isTrue hc =>
 obtain⟨P,O⟩:=hc;have n:=obj_at z P;refine Hm PySem.F.slot_dict_getitem.lookup M (rg ((pv i (pos:=w) T J hd o) c s r H (λv l=>v=.ref d/\l=H) I ⟨.ref d,n,rfl,rfl⟩) λu s1 b=>?_);obtain⟨y,l,I1,r1,U,Z⟩:=b;subst U Z;cases (show u=_ from r1);refine rg (S c s1 r l (λv k=>g6 l k/\Rep X.K k B v) I1 ⟨ρ,B,z.1,e1,λv k s2 G=>⟨s2,G⟩⟩) λiv s2 b=>?_
 obtain⟨y,k,I2,C,h,t⟩:=b;obtain⟨_,D2,_⟩:=W.mono h;rw[zZ Y] at t;exact QR L I2 D2 O g t C λv w' s3 I4 m E=>⟨v,k,I4,m,q v _ h E⟩
def Rb(i:Nat)(hu:X.A.units+1<cLine)(hk:SE X M Y)(he:Rz X e g)(hN:X.N[i]?=some x:=by rfl)(hv:Do X.env.scope x:=by first | exact Or.inl rfl | exact Or.inr (Or.inl rfl) | exact Or.inr (Or.inr rfl))(hd:(x==("__debug__" : Str))=false:=by decide)(S:(x==("__classdict__" : Str))=false:=by decide)
  (hs:swapsWith e (some (.Subscript (.Name x L) M pos')) pos.line X.env=pure false:=by rfl):WJ X (.Assign [.Subscript (.Name x L) M pos'] e pos) (Lh i Y g):=by
 intro b s t H E I m;obtain⟨ρ,τ,d,a,kv,ds,o,kv',ds',C,W,c,qq⟩:=m;obtain⟨T,e1,c⟩:=d7 c;obtain⟨Z,e2,c⟩:=d7 c;obtain⟨j,ek,c⟩:=d7 c;split at c
 case isFalse=>cases c
 case isTrue hc =>
 cases c;obtain⟨hi,Q,hn,hl⟩:=hc;have O:=obj_at C hi
 refine wpAny_Assign_Subscript (rg (he b s t H (λv n=>g6 H n/\Rep X.K n T v) I ⟨ρ,τ,d,a,kv,ds,T,C,W,e1,λv n s1 r1=>⟨s1,r1⟩⟩) λr s1 ⟨v,n,I1,rv,z,rd⟩ =>
  rg ((pv i (pos:=L) hN hv hd S) b s1 t n (λv G=>v=.ref d/\G=n) I1 ⟨.ref d,O,rfl,rfl⟩) λu s2 ⟨y,G,I2,r2,ey,eH⟩=>?_) hs
 subst ey eH;cases (show u=_ from r2);refine rg (hk b s2 t G (λv F=>g6 G F/\Rep X.K F Z v) I2 ⟨ρ,Z,(C.mono z).1,e2,λv F s3 r3=>⟨s3,r3⟩⟩) λiv s3 m=>?_
 obtain⟨y,F,I3,ry,w,U⟩:=m;have k:=z.trans w;have W3:=W.mono k;obtain⟨B,D3,ys,P,J⟩:=id W3;rw[zZ ek] at U;refine QZ hu I3 D3 Q hn hl U ry (rd.mono w) rv λH6 s6 I6 l D6=>?_
 have h:=D3.kp l;exact⟨t,H6,I6,qq H6 ((yk.of k).trans (yk.d l)) ⟨B,D6,ys,l _ _ (Ne.symm B) P,J.kp h⟩ t ((C.mono k).kp h)⟩
def P6(i:Nat)(he:SE X e f)(hN:X.N[i]?=some x:=by rfl)(hv:Do X.env.scope x:=by first | exact Or.inl rfl | exact Or.inr (Or.inl rfl) | exact Or.inr (Or.inr rfl))(hd:(x==("__debug__" : Str))=false:=by decide)(hcd:(x==("__classdict__" : Str))=false:=by decide)
  (A:attributeBase (.Name x B) "append" X.env (eval (.Name x B) X.env)=eval (.Name x B) X.env:=by rfl) (J:noStar e=true:=by rfl)
  (t:(ap.endLine==S.line)=true:=by rfl) (hs:swapsWith (.Call (.Attribute (.Name x B) "append" ap) [e] [] S) none pos.line X.env=pure false:=by rfl) :
  WJ X (.Expr (.Call (.Attribute (.Name x B) "append" ap) [e] [] S) pos) (NI i f):=by
 intro g s C H E I h;obtain⟨ρ,τ,d0,a,kv,ds,o,kv',ds',er,W,Q,qq⟩:=h;obtain⟨d,e1,Q⟩:=d7 Q;split at Q
 case isFalse=>cases Q
 case isTrue hc =>
 cases Q;obtain⟨hi,M⟩:=hc;have G:=ft er;rw[hi] at G;have l:=ad [] X.env J;refine wpAny_Expr_any (wpAny_Call_method_late A ?_ t rfl (rg ((pv i (pos:=B) hN hv hd hcd) g s C H (λv T=>v=.ref a/\T=H) I ⟨.ref a,G,rfl,rfl⟩) λv s1 ⟨y,T,I1,r1,ey,eH⟩=>?_)) I.quiet hs
 ·rw[l]
  rfl
 subst ey eH;cases (show v=_ from r1);obtain⟨_,_,ys0,ho,_⟩:=id W;obtain⟨z,its,n,rv,eo⟩:=gq I1 ho;refine⟨"list","list.append",PySem.F.plainAttrs_list,PySem.F.slot_list_append,PySem.F.type_list_append,⟨_,eo,rfl⟩,λb eb=>?_,?_⟩
 ·cases eb
  exact⟨_,eo,rfl⟩
 have hA:=(aj he aD J).1 S g s1 C T (λU j=>g6 T j/\g7 X.K j [d] U) I1 ⟨ρ,[d],er.1,by show(f ρ).bind _=_;rw[e1];rfl,λU j s2 r2=>⟨s2,r2⟩⟩;rw[l] at hA ⊢;refine Calls.callWith_builtin rfl (Calls.evalArgs_plain ?_);refine rg hA λus s2 h=>?_
 obtain⟨U,j,I2,r2,m,rd⟩:=h;obtain⟨w,w',rfl,Z,Y⟩:=rd;cases (show w'=[] from Y);obtain⟨O,D2,k,L,rp⟩:=W.mono m;have I3:=D5 I2 L;refine rg (fX g s2 C (upd j a (.lst k)) (.ref a) [w] (.ref a) us (λv H3=>H3=upd (upd j a (.lst k)) a (.lst (k++[w]))) I3 rfl r2 ⟨a,k,w,rfl,rfl,aa,by rw[<- rp.length];exact M,rfl⟩) λv s3 h=>?_
 obtain⟨v',H3,I4,_,e3⟩:=h;subst e3;have I5:=AD I4 aa;generalize P:upd (upd (upd j a (.lst k)) a (.lst (k++[w]))) a (uw a (k++[w]))=H5 at I5
 have r:sj a j H5:=by
  subst P;exact sj.upd.trans (sj.upd.trans sj.upd)
 have ho5:H5 a=some (uw a (k++[w])):=by subst P;exact aa
 have c:Kp j H5:=r.kp L;refine⟨C,H5,I5,qq H5 ((yk.of m).trans (yk.a r)) ⟨O,D2.move r O c,_,ho5,(rp.kp c).append (g7.one (Z.kp c))⟩ C ((er.mono m).kp c)⟩
def KJ(i:Nat)(S:X.A.units+1<cLine)(T:SE X e B)(Y:X.N[i]?=some x:=by rfl)(P:Do X.env.scope x:=by first | exact Or.inl rfl | exact Or.inr (Or.inl rfl) | exact Or.inr (Or.inr rfl))(hd:(x==("__debug__" : Str))=false:=by decide)(F:(x==("__classdict__" : Str))=false:=by decide) :
  Vq X (.Compare e [.NotIn] [.Name x z] pos) (yO i B):=by
 have G:PC X .NotIn e (.Name x z) (λl H Q=>∃ ρ n d a kv ds b,r_ X.K H ρ (some (.ref a)::n) l/\JY X.prog X.w X.K H d a kv ds/\yO i B ρ d kv=some b/\∀r,g6 H r->Q (.bl b) r):=by
  intro g s l H Q I c;obtain⟨ρ,n,d,a,kv,ds,b,o,W,h,q⟩:=c;obtain⟨L,e1,h⟩:=d7 h;obtain⟨j,ek,h⟩:=d7 h;split at h
  case isFalse=>cases h
  case isTrue hc =>
  cases h;obtain⟨U,E⟩:=hc;have C:=obj_at o U;refine rg (T g s l H (λv k=>g6 H k/\Rep X.K k L v) I ⟨ρ,L,o.1,e1,λv k s2 t=>⟨s2,t⟩⟩) λiv s1 c=>?_
  obtain⟨y,M,I1,O,m,J⟩:=c;refine rg ((pv i (pos:=z) Y P hd F) g s1 l M (λv k=>v=.ref d/\k=M) I1 ⟨.ref d,C,rfl,rfl⟩) λu s2 c=>?_
  obtain⟨y',k,I2,t,Z,eH⟩:=c;subst Z eH;cases (show u=_ from t);obtain⟨_,D2,_⟩:=W.mono m;rw[zZ ek] at J;exact Kr S I2 D2 E J O λs3 I4=>⟨.bl (rq kv j).isNone,_,I4,rfl,q _ m⟩
 exact(pE G (by rfl)).imp λl H Q c=>by obtain⟨ρ,n,d,a,kv,ds,b,o,W,e,q⟩:=c;exact⟨ρ,n,d,a,kv,ds,b,o,W,e,λr s=>⟨b,rfl,q r s⟩⟩
end
section
variable(P:Wr)(w:WC)(K:Wb)
def Ve(u:R->Nat->KI->V3 (D×KI)):TS:=λE e H=>∃ ρ c d kv r a,r_ K H ρ c e/\tR P w K H d kv/\u ρ d kv=some (r,a)/\∀b v,sj d H b->tR P w K b d a->Rep K b r v->E.rt v b
def SK(u:TS):TS:=λE b H=>∃a xs,H a=some (.lst xs)/\u E b (upd H a (uw a xs))
def S0(u:TS):TS:=λE b H=>∃a xs,H a=some (uw a xs)/\u E b (upd H a (.lst xs))
def Te(u:TS):TS:=λE c H=>∃a kv,tR P w K H a kv/\kv ≠ []/\∀b,sj a H b->Rep K b (sQ kv) (.ref a)->u E c b
end
section
variable{X:Cx}{st:Xi}{sts:List Xi}{u:TS}{p q:WU}{pos:Pos}
def mG(h:PSs X sts u):PSs X sts (SK u):=λb s c H E I ⟨a,xs,e,d⟩=>h b s c _ E (AD I e) d
def mW(h:PSs X sts u):PSs X sts (S0 u):=λb s c H E I ⟨a,xs,e,d⟩=>h b s c _ E (D5 I e) d
def nF(h:PSs X sts u):PSs X sts (Te X.prog X.w X.K u):=λb s e H E I c=>by
 obtain⟨a,kv,D,d,f⟩:=c;obtain⟨i,g,k,r⟩:=PX I D d;exact h b s e _ E g (f i k r)
def OL(i:Nat)(hN:X.N.Nodup)(h:WJ X st p)(s:X.N[i]?=some x:=by rfl)(hx:Loc X.env.scope x:=by first | exact Or.inl rfl | exact Or.inr rfl)(hv:Do X.env.scope x:=by first | exact Or.inl rfl | exact Or.inr (Or.inl rfl) | exact Or.inr (Or.inr rfl))
  (hs:swapsWith (.List [] p1) (some (.Name x px)) pos.line X.env=pure false:=by rfl) (hf:X.fn x=true\/X.env.scope.names.lookup x=some .local:=by first | exact .inl rfl | exact .inr rfl) (hd:(x==("__debug__" : Str))=false:=by decide) (Q:(x==("__classdict__" : Str))=false:=by decide) :
  PSs X [.Assign [.Name x px] (.List [] p1) pos,st,.Return (some (.Name x p2)) p3] (Ve X.prog X.w X.K (Fs i p)):=by
 refine(aS (cR (i:=i) hN s hx (gT aD.1) hs hf) (mG (aS h (mW (bK (gM (pv i (pos:=p2) s hv hd Q))))))).imp λE σ H M=>?_
 obtain⟨ρ,Z,d,kv,r,J,C,D0,e,qq⟩:=M;unfold Fs at e;split at e
 case isFalse=>cases e
 case isTrue hlen =>
 obtain⟨⟨o1,kv1,W⟩,U,e⟩:=d7 e
 match o1,e,U with
 | .nx ρ1,e,U =>
 dsimp only at e;split at e
 case isFalse=>cases e
 case isTrue hl1 =>
 cases e;refine⟨ρ,[],C.1,rfl,λvs Y s1 r1=>⟨?_,λa S=>?_⟩⟩
 ·rw[<- r1.length];exact W4 _
 cases (show vs=[] from r1);refine⟨a,[],aa,?_⟩;generalize B:upd (upd Y a (.lst [])) a (uw a [])=H2
 have L:sj a Y H2:=by
  subst B;exact sj.upd.trans sj.upd
 have G:g6 Y H2:=λb u A=>L b u (λz=>by rw[z,S] at A;cases A) A
 have O:H2 a=some (uw a []):=by subst B;exact aa
 have k:=s1.trans G;obtain⟨φ,P⟩:=D0.ext
 have t:d≠a:=λz=>by
  have:=s1 _ _ P;rw[z,S] at this;cases this
 have m:i<σ.length:=Wv (by omega) C.1.1;refine⟨ρ.take i,Z,d,a,kv,[],.nx ρ1,J,W,⟨⟨?_,λj d' c=>?_⟩,?_⟩,⟨t,D0.mono k,[],O,rfl⟩,U,λF k3 W3 σ3 T=>?_⟩
 ·simp
  omega
 ·have hj:j<i:=by
   have:=(Wm.mp c).1;simp at this;omega
  rw[List.getElem?_take_of_lt hj] at c;obtain⟨v,h1,h2⟩:=C.1.2 j d' c;exact⟨v,by rw[W7 (by omega)];exact h1,h2.mono k⟩
 ·have c:σ.drop (i+1)=Z:=by rw[<- hlen];exact C.2
  rw[Xn,Nat.min_eq_left (by omega),W6 (by simpa using m)];congr 1
  ·simp
  ·rw[List.drop_set_of_lt (by omega)]
   exact c
 ·obtain⟨_,D3,f,o,I⟩:=id W3
  have l:sj a F (upd F a (.lst f)):=sj.upd;have g:Kp F (upd F a (.lst f)):=l.kp o;have n:=ft T;rw[hl1] at n;refine⟨a,f,o,.ref a,n,qq _ (.ref a) (λb u A e=>?_) (D3.move l t g) ⟨a,f,rfl,aa,I.kp g⟩⟩
  have y:b≠a:=λz=>by
   have:=s1 _ _ e;rw[z,S] at this;cases this
  exact l b u y (k3 b u A y (k _ _ e))
end
def UX(P:Wr)(w:WC)(K:Wb)(m:Nat)(g:LD->Nat->KI->V3 (D×KI)):Sp:=λe H Q _=>∃d ds a kv r b,e=.ref d::a/\a.length+1=m/\g7 K H ds a/\tR P w K H d kv/\g (.obj 1 d [] []::ds) d kv=some (r,b) /\
 ∀c v,sj d H c->tR P w K c d b->Rep K c r v->Q v c
def nS{P:Wr}{w:WC}{K:Wb}{mg:Str->V3 V5}{base:WK}{x qual:Str}{st:Xi}{f:V_}{fd:W_}{N ps:List Str}{k:Nat}{g:R->Nat->KI->V3 (D×KI)}
  (z:Hh K x qual st f fd) (S:sL N ps (g9 st))
  (u:∀(i:V5) (A:WM) (outer:List Env) (s:V7) (H:Hp) (E:XK),rJ k (A.deeper (envOfC qual (g9 st) s.heap.objs.size f i))->PSs (wY vq P w K mg base N qual (g9 st) f i A outer s H E).nox (qW st) (Ve P w K g)) :
  rM P w K mg base vq (k+1) f fd ps (UX P w K ps.length λds=>g (AM N.length ds)):=by
 refine z.ok S (λn H Q E h=>?_) (λi A outer s H n Q E p h=>?_)
 ·obtain⟨d,ds,j,kv,r,l,rfl,m,_⟩:=h
  exact m
 ·obtain⟨d,ds,j,kv,r,l,rfl,m,o,hd,e,q⟩:=h
  refine⟨_,u i A outer s H E p,AM N.length (.obj 1 d [] []::ds),_,d,kv,r,l,(zX (ds:=.obj 1 d [] []::ds) ⟨.ref d,j,rfl,rfl,o⟩).t,hd,e,λy v a b c=>q y v a b c⟩
structure Ri (P:Wr) (w:WC) (K:Wb) (mg:Str->V3 V5) (base:WK) (k:Nat) (x:Str) (ps:List Str) (g:LD->Nat->KI->V3 (D×KI)):Prop where
 ex:∃f fd,rM P w K mg base vq k f fd ps (UX P w K ps.length g)/\mg x=some (.ref f)/\W.keepIn K (.ref f)=true/\Binds K fd ps []
def TV(P:Wr)(w:WC)(K:Wb)(tk f:TE):TE:=λd H Q=>∀p,H p=none->GJ [(tk,f)] d (upd H p (.dK [])) λps b=>∃x y,ps=[(x,y)]/\b p=some (.dK [])/\∃c e,Rep K b (l6 c) x/\(∀H,Rep K H e y)/\∀a,sj p b a->tR P w K a p [(c,e)]->Q (.ref p) a
def Vy{K:Wb}(h:H p=some (.dK [])):(∀{a xs},tS K H a xs->tS K (upd H p o) a xs):=λ{a xs} q=>by
 have b:∀{u},H a=some u->u≠.dK []->a≠p:=λ{u} e n z=>by rw[z,h] at e;exact n (Wq e).symm
 rcases q with (q | ⟨ob,q⟩) | q
 ·exact .inl (.inl (by rw[ac (b q (λz=>by cases z))];exact q))
 ·exact .inl (.inr ⟨ob,by rw[ac (b q (λz=>by cases z))];exact q⟩)
 ·exact .inr q
def pP(hu:X.A.units+1<cLine)(hk:PE X k tk)(hv:PE X v O):PE X (.Dict [some k] [v] pos) (TV X.prog X.w X.K tk O):=by
 intro j s Y H Q I q;have hn:=I.hok.fresh (Wl s.heap.objs.size);have I1:=I.laid (a:=s.heap.objs.size) (o:=.dK []) (h':=s.heap.push {cls:=.type "dict",data:=.dict #[]}) (t':=s.toks) (λ_ _ q=>V6 _ q) (Wl _) (lQ s.heap I.big);refine wpAny_Dict_any rfl rfl (by simp) (by simp) ?_;generalize s.heap.objs.size=d at *
 refine rg (K1 (pos:=pos) hk hv Na j _ Y _ (λps h=>∃x y,ps=[(x,y)]/\h d=some (.dK [])/\∃t e,Rep X.K h (l6 t) x/\(∀H,Rep X.K H e y)/\∀M,sj d h M->tR X.prog X.w X.K M d [(t,e)]->Q (.ref d) M) I1 (q d hn)) λws s2 u=>?_
 obtain⟨ps,h,n,p,x,y,J,f,t,e0,rk,re,P⟩:=u;subst J;cases p with
 | @cons _ b _ ls e rt =>
 cases rt;obtain⟨N,u2⟩:=b;obtain⟨U,T⟩:=e;show wpAny _ _ (storeAll d [(N,u2)]) _ _ s2;unfold storeAll;rw[List.forIn_cons];refine V4 (V4 ?_);obtain⟨z,l,Z,r0,dd⟩:=nV n.hok f;cases r0;rcases ye rk with ⟨i,rfl,rfl⟩ | ⟨r,a,rfl,rfl,S⟩
 ·refine wpAny_dictSet_pairs (Ff (k:=(Sum.inl i:Key)) U) dd λh' c C=>?_
  refine V8 (V8 ⟨.ref d,upd h d (DA X.prog X.w d [(Sum.inl i,y)]),?_,rfl,P _ sj.upd (.inl ⟨_,aa,i,y,[],rfl,rfl,re _,rfl⟩)⟩);have G:∃q,h'.get? d=some q:=let ⟨q,_,_,g,_⟩:=c;⟨q,g⟩;have I3:=dl (ob:=.dK [(Sum.inl i,y)]) (t':=s2.toks+1) n (by rw[f];trivial) C G (lD (by show 1<=sizeLine;decide) l (.cons ⟨rfl,T⟩ .nil) c);have W:=zT I3 aa;rw[nO] at W;exact W
 ·cases (show N=_ from U)
  obtain⟨o,es,ep,g,B,m,hko,E,hnd⟩:=dd
  have F:es.toList=[]:=by
   have:=E.length;exact List.length_eq_zero_iff.mp this
  have L:s2.heap.DictOfH (tupleKind (l7 X.prog X.w)) d []:=⟨o,es,ep,g,B,m,by rw[F];rfl,(λx B=>nomatch B),List.nodup_nil⟩
  refine wpAny_dictSet_heap (knd:=tupleKind (l7 X.prog X.w)) (show X.A.units<cLine by omega) (A2 n S) L (λh' c C=>?_) (by show 0<=sizeLine;decide);rw[storedH_new rfl] at c;have G:∃q,h'.get? d=some q:=let ⟨q,_,_,g,_⟩:=c;⟨q,g⟩;refine V8 (V8 ⟨.ref d,upd h d (I_ X.prog X.w d [(r,a,y)]),?_,rfl,P _ sj.upd (.inr ⟨_,aa,r,a,y,[],rfl,rfl,Vy f S,re _,rfl⟩)⟩);exact dl n (by rw[f];trivial) C G (FG l (by show 1<=sizeLine;decide) (.cons ⟨rfl,rfl,T⟩ .nil) c)
section
variable{X:Cx}{pos p1 p2 p3 p4 p5 p6 p7 p8 p9 p10 p11 p12 p13 p14:Pos}
def mB{k:Nat}(n i j F p:Nat)(hp:PassesOwn (model X.prog X.w) X.A X.env X.xe)(C:Ri X.prog X.w X.K X.mg X.base k W ps g)(hps:ps.length=3)(hr:rJ k X.A)(hN:X.N.Nodup)(hc:ST X c (i9 FT (d3 rY (b8 (b9 p) d4)) (kI 0)))(hve:SE X ve (λ_=>some e))(rye:∀(A B:Hp) (v:V),Rep X.K A e v->Rep X.K B e v)
  (hij:i≠F/\i≠p/\j≠F/\j≠p/\F≠p/\F<n/\p<n:=by decide)
  (hxs:X.N[i]?=some xs:=by rfl) (hxc:X.N[j]?=some J:=by rfl) (Q:X.N[F]?=some t:=by rfl) (S:X.N[p]?=some h:=by rfl)
  (vs:Do X.env.scope xs:=by first | exact Or.inl rfl | exact Or.inr (Or.inl rfl) | exact Or.inr (Or.inr rfl)) (vc:Do X.env.scope J:=by first | exact Or.inl rfl | exact Or.inr (Or.inl rfl) | exact Or.inr (Or.inr rfl))
  (vw:Do X.env.scope t:=by first | exact Or.inl rfl | exact Or.inr (Or.inl rfl) | exact Or.inr (Or.inr rfl)) (vn:Do X.env.scope h:=by first | exact Or.inl rfl | exact Or.inr (Or.inl rfl) | exact Or.inr (Or.inr rfl))
  (lw:Loc X.env.scope t:=by first | exact Or.inl rfl | exact Or.inr rfl) (ln:Loc X.env.scope h:=by first | exact Or.inl rfl | exact Or.inr rfl)
  (fw:X.fn t=true\/X.env.scope.names.lookup t=some .local:=by first | exact .inl rfl | exact .inr rfl) (fn:X.fn h=true\/X.env.scope.names.lookup h=some .local:=by first | exact .inl rfl | exact .inr rfl)
  (ds:(xs==("__debug__" : Str))=false:=by decide) (dc:(J==("__debug__" : Str))=false:=by decide) (dw:(t==("__debug__" : Str))=false:=by decide) (dn:(h==("__debug__" : Str))=false:=by decide) (df:(W==("__debug__" : Str))=false:=by decide)
  (cs:(xs==("__classdict__" : Str))=false:=by decide) (cc:(J==("__classdict__" : Str))=false:=by decide) (cw:(t==("__classdict__" : Str))=false:=by decide) (cn:(h==("__classdict__" : Str))=false:=by decide)
  (gf:Gl X W:=by rfl)
  (s1:swapsWith (.Dict [some (.Name xs p2)] [ve] p3) (some (.Name t p1)) p4.line X.env=pure false:=by rfl) (s2:swapsWith (.List [.Name xs p6] p7) (some (.Name h p5)) p8.line X.env=pure false:=by rfl)
  (s3:swapsWith (.Call (.Name W p10) [.Name t p11,.Name h p12,.Name J p13] [] p9) (some (.Name h p14)) pos.line X.env=pure false:=by rfl) :
  SS X [.Assign [.Name t p1] (.Dict [some (.Name xs p2)] [ve] p3) p4,.Assign [.Name h p5] (.List [.Name xs p6] p7) p8,.While c [.Assign [.Name h p14] (.Call (.Name W p10) [.Name t p11,.Name h p12,.Name J p13] [] p9) pos] [] q1,.Return (some (.Name t q2)) q3] (xT g n i j e):=by
 obtain⟨f,fd,a,m,kp,bd⟩:=C.ex;obtain⟨n1,n2,n3,n4,n5,l1,l2⟩:=hij;have ha:SA X [.Name t p11,.Name h p12,.Name J p13] (b8 (b9 F) (b8 (b9 p) (b8 (b9 j) d4))):=aj (aK F Q vw dw cw) (aj (aK p S vn dn cn) (aj (aK j hxc vc dc cc) aD));have hl1:SA X [.Name xs p6] (b8 (b9 i) d4):=aj (aK i hxs vs ds cs) aD;have he':=ad (e:=.Name t p11) [.Name h p12,.Name J p13] X.env rfl;have hpl:=aM (pos:=p9) (env:=X.env) (es:=[.Name h p12,.Name J p13]) rfl
 refine PSs.imp (aS (cR (i:=F) hN Q lw (pP (FF hr) (show SE X (.Name xs p2) (b9 i) from aK i hxs vs ds cs) hve) s1 fw) (aS (cR (i:=p) hN S ln (gT hl1.1) s2 fn)
  (aS (fJ hp hc (bK (cR (i:=p) hN S ln (eN a hr gf m kp bd .nil AB ha.1 df he' hpl) s3 fn))) (nF (bK (gM (pv F (pos:=q2) Q vw dw cw))))))) λE σ H ⟨ρ,τ,o,er,eg,q⟩=>?_
 obtain⟨hlen,s,c',ky,kv,h1,h2,hky,hne,h3,rfl⟩:=KO eg;intro d hd;have u0:=ar hd (.dK []);have nd:∀b u,H b=some u->b≠d:=λb u I z=>by rw[z,hd] at I;cases I
 refine⟨ρ,s,(er.mono u0).1,h1,λv H1 t1 r1=>?_⟩;refine⟨ρ,e,((er.mono u0).mono t1).1,rfl,λy H2 t2 r2=>?_⟩;have hd2:H2 d=some (.dK []):=t2 _ _ (t1 _ _ aa);have rk:Rep X.K H2 (l6 ky) v:=by rw[<- zZ hky];exact r1.mono t2
 refine⟨v,y,rfl,hd2,ky,e,rk,λH=>rye _ _ _ r2,λH3 k23 D3=>?_⟩;have s03:g6 H H3:=λb u I=>k23 b u (nd b u I) (t2 _ _ (t1 _ _ (u0 _ _ I)))
 have er1:=(er.mono s03).set (i:=F) (d:=.obj 1 d [] []) (v:=.ref d) (by omega) rfl;refine⟨ρ.set F (some (.obj 1 d [] [])),[s],er1.1,?_,λY H4 t4 r4=>⟨?_,λl hl=>?_⟩⟩
 ·show(b9 i (ρ.set F _)).bind _=_
  rw[yF (Ne.symm n1),h1];rfl
 ·rw[<- r4.length];exact WD (show 1<=1000 by decide) (by decide)
 have u4:=ar hl (.lst Y);have s05:=(s03.trans t4).trans u4;have er2:=((er1.mono t4).mono u4).set (i:=p) (d:=.lst [s]) (v:=.ref l) (by rw[Xc];omega) ⟨l,Y,rfl,aa,r4.mono u4⟩
 refine⟨λmm U H'=>∃ ρ' M G,r_ X.K H' ρ' τ U/\ρ'.length=n/\b9 F ρ'=some (.obj 1 d [] [])/\b9 p ρ'=some (.lst M)/\b9 j ρ'=some c'/\tR X.prog X.w X.K H' d G/\g6 H H'/\EW g c' mm M d G=some kv,
  ⟨100,_,[s],[(ky,e)],er2,by rw[Xc,Xc];exact hlen,?_,?_,?_,(D3.mono t4).mono u4,s05,h3 d⟩,?_⟩
 ·rw[yF (Ne.symm n5),Dm (by omega)]
 ·rw[Dm (by rw[Xc];omega)]
 ·rw[yF (Ne.symm n4),yF (Ne.symm n3)];exact h2
 rintro mm U H' ⟨ρ',M,G,O,hl',v1,v2,v3,D',Z,T⟩
 have hcv:i9 FT (d3 rY (b8 (b9 p) d4)) (kI 0) ρ'=some (decide (0<(M.length:Int))):=by
  show(((b9 p ρ').bind λx=>(some []).map (x::·)).bind rY).bind (λx=>(some (D.int 0)).bind λy=>FT x y)=_;rw[v2];show some (decide ((M.length:Int) > 0))=_;rfl
 refine⟨ρ',_,O.1,hcv,λH6 t6=>?_⟩;cases mm with
 | zero=>cases T
 | succ mm =>
 cases M with
 | nil =>
  have ek:G=kv:=Wq T;subst ek;rw[Wu (by simp)];refine⟨d,G,D'.mono t6,hne,λH9 k69 r9=>⟨.ref d,obj_at O v1,q _ (λb u I=>k69 b u (nd b u I) (t6 _ _ (Z _ _ I))) (.ref d) r9⟩⟩
 | cons x M =>
  rw[Wc (by simp)];obtain⟨⟨r,kv1⟩,eg1,T⟩:=d7 T;obtain⟨l',rfl⟩:∃l',r=.lst l':=by clear eg1;cases r<;>first | exact⟨_,rfl⟩ | cases T
  refine⟨_,λσ2 H2 w=>⟨mm,Xp _,w⟩,ρ',[.obj 1 d [] [],.lst (x::M),c'],(O.mono t6).1,?_,λvs7 H7 t7 r7=>?_⟩
  ·show(b9 F ρ').bind (λx=>((b9 p ρ').bind λy=>((b9 j ρ').bind λz=>(some []).map (z::·)).map (y::·)).map (x::·))=_
   rw[v1,v2,v3];rfl
  obtain⟨v7,P,rfl,rv7,rr⟩:=r7;cases (show v7=_ from rv7);have L:=t6.trans t7;refine⟨d,[.lst (x::M),c'],P,G,.lst l',kv1,by simp,by rw[hps,<- rr.length];rfl,rr,D'.mono L,eg1,λH8 v8 k8 D8 rv8=>?_⟩;have kp78:Kp H7 H8:=(D'.mono L).kp k8;refine⟨ρ'.set p (some (.lst l')),l',kv1,(((O.mono L).kp kp78).set (by omega) rv8),by rw[Xc];exact hl',?_,Dm (by omega),?_,D8,λb u I=>k8 b u (nd b u I) (L _ _ (Z _ _ I)),T⟩
  ·rw[yF (Ne.symm n5)];exact v1
  ·rw[yF (Ne.symm n4)];exact v3
end
end HW
namespace HW
open PySem
end HW
namespace HW
open PySem PySem.Spec PyProof.Rows L2
section
variable{H:Hp}{as:List V_}{f:V_->HO}
end
section
variable{X:Cx}{pins:List (V_×Obj)}{σ:L2.St}{s:V7}{xs:V_->List V}
end
section
variable{K:Wb}{H H' H1 H2:Hp}{as:List V_}{ls:LLs}{xs:V_->List V}{ρ:R}{σ:L2.St}
end
section
variable(K:Wb)
end
section
variable{X:Cx}{st:Xi}{sts:List Xi}{u:R->V3 Out}{p q:NU}{pos:Pos}{e:WG}
end
section
variable{prog:Wr}{w:WC}{A:WM}{E:V5->V7->Prop}{s:V7}{d it:V_}{o:Obj}{es:Array DictEntry}{ep i:Nat}
def NF(a:s.heap.get? d=some o)(b:o.ExactDict):s.TypeIs (.ref d) "dict":=⟨o,a,b.1⟩
def Sk(hd:(d==sysModules)=false)(b:s.heap.get? d=some o)(c:o.ExactDict)(a:o.data=.dict es ep)
  (e:Q (.ref s.heap.objs.size) {s with heap:=s.heap.push {cls:=.type "dict_keyiterator",data:=.fields #[.ref d,.int 0 0,.int es.size 0,.int ep 0]} }):wpAny (model prog w) A (pyIter (.ref d)) Q E s:=by
 have hT:=NF b c;refine wpAny_pyIter_slot hT F.slot_dict_iter (wpAny_call_entry F.slot_dict_iter hT F.entry_dict_iter ?_ (F.args_dict_iter_1 _));unfold Builtin.«dict.__iter__»;refine V4 ?_;unfold Builtin.Dict.dictSlotNone;refine V4 (wpAny_notOrdered_dict hT ?_);show wpAny _ _ (pure (Value.ref d)) _ _ s;refine V8 ?_;show wpAny _ _ (Builtin.Dict.showsAll d >>= _) _ _ s;unfold Builtin.Dict.showsAll;rw[Wu (by rw[hd];exact We)];refine V4 (V8 ?_);refine V4 (wpAny_dictEntries b a ?_);refine V4 (wpAny_dictEpoch b a ?_);refine V4 (WO (V8 ⟨_,rfl,"dict_keyiterator",_,⟨_,Wf _ rfl,rfl⟩,F.slot_dict_keyiterator_next.lookup,?_⟩));simpa [rawInt] using e
def RY(a:s.heap.IsKeyIter it d i es.size ep)(c:s.heap.get? d=some o)(e:o.data=.dict es ep)(g:i<es.size)
  (j:∀h',h'.IsKeyIter it d (i+1) es.size ep->Heap.SameBut it s.heap h'->Q (some es[i].key) {s with heap:=h' }):wpAny (model prog w) A (pyNext (.ref it)) Q E s:=by
 obtain⟨k,f,h,hd⟩:=id a;unfold pyNext;refine V4 (wpAny_attempt (wpAny_callSpecial?_slot (name:=oS "__next__") a.typeIs F.slot_dict_keyiterator_next (wpAny_call_entry F.slot_dict_keyiterator_next a.typeIs F.entry_dict_keyiterator_next ?_ (F.args_dict_keyiterator_next_1 _))));refine V4 (V8 ?_);refine V4 ?_;refine V4 ?_
 first | refine V4 (wpAny_typeNameOfWhole_keyiter a.typeIs (V8 ?_));refine V4 (wpAny_fieldsOf f hd ?_) | refine V4 (wpAny_typeNameOf_keyiter a.typeIs (V8 ?_));refine V4 (wpAny_fieldsOf f hd ?_)
 rw[Wu (show ¬ (Builtin.Dict_items.ownsTuple "dict_keyiterator" = true) by decide)];show wpAny _ _ (if (Value.ref d==Value.none)=true then _ else _) _ _ s;rw[Wu (show ¬ ((Value.ref d==Value.none)=true) from We)];refine V4 (V8 ?_);refine V4 (wpAny_dictEntries c e ?_);rw[Wu (by simp)];refine V4 (V8 ?_);refine V4 (wpAny_dictEpoch c e ?_);rw[Wu (by simp)];refine V8 ?_;dsimp only;rw[Wu (show ¬ ((i:Int)<0) by omega),Int.toNat_natCast,Xa g];refine V4 ?_
 first | refine V4 (wpAny_typeNameOfWhole_keyiter a.typeIs (V8 ?_));refine V4 (wpAny_isOneOf_keyiter a.typeIs ?_) | refine V4 (wpAny_typeNameOf_keyiter a.typeIs (V8 ?_));refine V4 (wpAny_isOneOf_keyiter a.typeIs ?_)
 show wpAny _ _ (setField (.ref it) 1 (rawInt ((i:Int)+1)) >>= _) _ _ s;refine V4 (wpAny_setField f hd (by simp) ?_);have b:(s.heap.update it (Obj.mapFields (·.setIfInBounds 1 (rawInt ((i:Int)+1))))).IsKeyIter it d (i+1) es.size ep:=⟨_,WX _ f (Obj.isFreed_of_fields (Obj.data_mapFields hd _)),(Obj.cls_mapFields ..).trans h,by rw[Obj.data_mapFields hd];simp[rawInt]⟩
 refine V4 (wpAny_holding ?_);refine V4 (wpAny_isOneOf_keyiter (s:={s with heap:=s.heap.update it (Obj.mapFields (·.setIfInBounds 1 (rawInt ((i:Int)+1))))}) b.typeIs ?_);show wpAny _ _ (pure es[i].key) _ _ _;exact V8 (V8 ⟨_,rfl,V8 (j _ b (Heap.SameBut.update ..))⟩)
def U0(j:A.handled=none)(c:s.heap.IsKeyIter it d i es.size ep)(e:s.heap.get? d=some o)(f:o.data=.dict es ep)(h:es.size<=i)
  (k:∀h',Heap.ExtBut it s.heap h'->Q none {s with heap:=h' }):wpAny (model prog w) A (pyNext (.ref it)) Q E s:=by
 obtain⟨l,g,n,hd⟩:=id c;unfold pyNext;refine V4 (wpAny_attempt (wpAny_callSpecial?_slot (name:=oS "__next__") c.typeIs F.slot_dict_keyiterator_next (wpAny_call_entry F.slot_dict_keyiterator_next c.typeIs F.entry_dict_keyiterator_next ?_ (F.args_dict_keyiterator_next_1 _))));refine V4 (V8 ?_);refine V4 ?_;refine V4 ?_
 first | refine V4 (wpAny_typeNameOfWhole_keyiter c.typeIs (V8 ?_));refine V4 (wpAny_fieldsOf g hd ?_) | refine V4 (wpAny_typeNameOf_keyiter c.typeIs (V8 ?_));refine V4 (wpAny_fieldsOf g hd ?_)
 rw[Wu (show ¬ (Builtin.Dict_items.ownsTuple "dict_keyiterator" = true) by decide)];show wpAny _ _ (if (Value.ref d==Value.none)=true then _ else _) _ _ s;rw[Wu (show ¬ ((Value.ref d==Value.none)=true) from We)];refine V4 (V8 ?_);refine V4 (wpAny_dictEntries e f ?_);rw[Wu (by simp)];refine V4 (V8 ?_);refine V4 (wpAny_dictEpoch e f ?_);rw[Wu (by simp)];refine V8 ?_;dsimp only;rw[Wu (show ¬ ((i:Int)<0) by omega),Int.toNat_natCast,Array.getElem?_eq_none h];refine V4 ?_
 first | refine V4 (wpAny_typeNameOfWhole_keyiter c.typeIs (V8 ?_));show wpAny _ _ (setField (.ref it) 0 .none >>= _) _ _ s | refine V4 (wpAny_typeNameOf_keyiter c.typeIs (V8 ?_));show wpAny _ _ (setField (.ref it) 0 .none >>= _) _ _ s
 refine V4 (wpAny_setField g hd (by simp) ?_);show wpAny _ _ (newExc (.type "StopIteration") [] >>= _) _ _ _;refine V4 ?_;simp only[newExc,newTuple];refine V4 (WO ?_ (by size_fits));refine V4 (m:=firstArgMember _ _) (wpAny_of_eq (a:=Value.none) (by first | rfl | (simp only[firstArgMember];rfl)) ?_);refine WO ?_ (by size_fits);unfold raiseNew;refine V4 (wpAny_handled ?_);rw[show A.in1.handled=none from j];refine V4 (V8 (wpAny_throw ?_));refine V4 (wpAny_isInstance (T:="StopIteration") (b:=true) ⟨_,Wf _ rfl,rfl⟩ isSubtype_stop ?_);exact V8 (k _ (((Heap.SameBut.update ..).extBut.push _).push _))
end
def Vi(a:V_)(o:Obj)(b:List V_):It:=⟨λi H=>H a=some (.frz o (.own 0))/\i<b.length,λi H x c=>c=H/\∃k,b[i]?=some k/\x=.ref k,λi H=>H a=some (.frz o (.own 0))/\b.length<=i⟩
def FZ{K:Wb}{O:Nat}(hd:o.data=.dict es O)(y:es.toList.map (·.key)=f.map Value.ref):Turn P w K tg (Vi a o f) [it] it (λi h=>h.IsKeyIter it a i es.size O) where
 mem:=by simp
 obj:=λi h st b n=>by
  have e:b=it:=by simpa using n
  subst e;obtain⟨o,e,c,d⟩:=st;exact⟨o,e,λv z=>by rw[d] at z;cases z⟩
 keep:=λi h h' st k=>st.at λo e=>k it (by simp) o e
 item:=by
  intro X B t C N i j s M H E I r st m;obtain⟨x,A⟩:=m;have g:s.heap.get? a=some o:=(I.hok a _ x).1;have Q:es.size=f.length:=by have:=congrArg List.length y;simpa using this
  have q:i<es.size:=by omega
  obtain⟨f0,L,S,J,G,F⟩:=r it (by simp)
  have p:es[i].key=.ref f[i]:=by
   have h1:(es.toList.map (·.key))[i]?=(f.map Value.ref)[i]?:=by rw[y]
   rw[Wg,Wg,List.getElem?_eq_getElem A,List.getElem?_eq_getElem (by simpa using q)] at h1;simpa using h1
  subst B t C;refine RY st g hd q λh' l u=>?_
  have Y:L2.Inv X j M H {s with heap:=h' }:=I.turned (t':=s.toks) (λb o n e=>(u.2 b n).trans e) f0 L J G F;obtain⟨Z,U,c1,W⟩:=id l;refine⟨_,rfl,Fq (s:={s with heap:=h' }) U c1 W (by decide) ⟨.ref f[i],H,Y,?_,⟨rfl,_,List.getElem?_eq_getElem A,rfl⟩,l,λb n=>(r b n).1⟩⟩;rw[p];rfl
 done:=by
  intro X B t C N i j s M H E I r st m;obtain⟨x,A⟩:=m;have g:s.heap.get? a=some o:=(I.hok a _ x).1;have Q:es.size=f.length:=by have:=congrArg List.length y;simpa using this
  obtain⟨f0,L,S,J,G,F⟩:=r it (by simp);subst B t C;exact U0 (I.ok.hd N) st g hd (by omega) λh' T=>⟨rfl,I.turned (t':=s.toks) (λb o n e=>T b o n e) f0 L J G F⟩
 self:=λ_ _ _ _ _ st h=>wpAny_pyIter_keyiter st h
theorem yV{K:Wb}:∀{ks:List (Int×Int)} {b:List V_},w_ K H ks b->ks.length=b.length
 | [],_,h=>by cases (show _=[] from h);rfl
 | k::ks,_,h=>by
  obtain⟨a,r,rfl,_,t⟩:=h;rw[WH,WH,yV t]
theorem CB{K:Wb}:∀{ks:List (Int×Int)} {b:List V_} {i:Nat} {k:Int×Int},w_ K H ks b->ks[i]?=some k->∃a,b[i]?=some a/\tS K H a [.int k.1,.int k.2]
 | k'::ks,_,0,k,h,e=>by
  obtain⟨a,r,rfl,q,t⟩:=h;cases (show some k'=some k from e);exact⟨a,rfl,q⟩
 | k'::ks,_,i+1,k,h,e=>by
  obtain⟨a,r,rfl,q,t⟩:=h;exact CB (i:=i) t e
def Ln:∀{ks:List (Int×Int)} {c:List V_} {xs:List V} {d:List (List Key×V_×V5)},ks.length=c.length->c.length=xs.length->FU (ks.zip (c.zip xs)) d->(d.map (entryOfKey (tupleKind (l7 P w)))).map (·.key)=c.map Value.ref:=by
 intro ks
 induction ks with
 | nil =>
  intro c xs d h1 f h;cases c with
  | nil=>cases xs with
   | nil=>cases h;rfl
   | cons=>cases f
  | cons=>cases h1
 | cons k ks g =>
  intro c xs d h1 f h;cases c with
  | nil=>cases h1
  | cons a c=>cases xs with
   | nil=>cases f
   | cons x xs =>
    cases h with
    | @cons _ b _ ls e t =>
    obtain⟨l,i,j⟩:=b;cases (show i=_ from e.2.1);have g:=g (by simpa using h1) (by simpa using f) t;show Value.ref a::_=Value.ref a::_;rw[g]
def Lz{K:Wb}{H:Hp}{k:Int×Int}{a:V_}(h:tS K H a [.int k.1,.int k.2]):Rep K H (.tup [.int k.1,.int k.2]) (.ref a):=⟨a,_,rfl,h,_,_,rfl,rfl,_,_,rfl,rfl,rfl⟩
section
variable{X:Cx}{a:WG}{f:R->OD}
def Qy(e:A6 (λ_=>some x) []=some r):∃a b,x=.dcp a b:=by
 replace e:Pr x=some r:=e
 cases x<;>first | exact⟨_,_,rfl⟩ | cases e
def pC(ha:SE X a f):SI X tg a (A6 f):=by
 intro n s Q H W I j;obtain⟨ρ,ds,er,e,q⟩:=j;obtain⟨x,e1,e⟩:=d7 e;refine rg (ha n s Q H (λv m=>g6 H m/\Rep X.K m x v) I ⟨ρ,x,er,e1,λv m s1 r1=>⟨s1,r1⟩⟩) λu s1 j=>?_
 obtain⟨v,m,C,T,E,S⟩:=j;obtain⟨ks,dd,rfl⟩:=Qy e;cases e;obtain⟨b,p,xs,rfl,⟨⟨Z,N,hl⟩,o,P,w,G,_,qs,es,ep,Y,U,h,M,_⟩,r⟩:=S;cases T;have g:s1.heap.get? b=some o:=(C.hok b _ G).1;have J:=yV N;have l:es.toList.map (·.key)=p.map Value.ref:=by rw[M];exact Ln J hl Y
 refine Sk Z g U h ?_;refine⟨s1.heap.objs.size,[s1.heap.objs.size],_,Vi b o p,m,rfl,C.kept (t':=s1.toks) λc o e=>V6 _ e,FZ h l,⟨_,Wf _ rfl,rfl,rfl⟩,λc hc=>?_,q _ m E ?_⟩
 ·have e:c=s1.heap.objs.size:=by simpa using hc
  subst e;exact C.fpOk (Wl _) (C.hok.fresh (Wl _))
 ·refine⟨λi d H2 k2 B=>?_,λi H2 k2 B=>⟨k2 _ _ G (λO z=>by cases z),by rw[V9] at B;omega⟩⟩
  rw[Wg] at B;obtain⟨k,A,rfl⟩:=q8 B;have hik:i<ks.length:=(Wm.mp A).1;obtain⟨ka,L,F⟩:=CB N A;refine⟨⟨k2 _ _ G (λO z=>by cases z),by omega⟩,?_⟩;rintro y H3 ⟨rfl,k',t,rfl⟩;rw[L] at t;cases t;exact⟨g6.refl _,Lz (k2.tup F)⟩
theorem Fx(I:L2.Inv X d j H s):∀{ks:List (Int×Int)} {g:List V_} {xs:List V} {i:List (List Key×V_×V5)},w_ X.K H ks g->FU (ks.zip (g.zip xs)) i->∀x∈i,(tupleKind (l7 X.prog X.w)).is s.heap x.1 x.2.1
 | [],_,_,_,_,r,x,c=>by
  rw[List.zip_nil_left] at r;cases r;cases c
 | k::ks,_,[],_,h,r,x,c=>by
  obtain⟨a,l,rfl,q,t⟩:=h;cases r;cases c
 | k::ks,_,y::ys,_,h,r,x,c=>by
  obtain⟨a,l,rfl,q,t⟩:=h;cases r with
  | @cons _ b _ ls e rt =>
  rcases Wo.mp c with rfl | c
  ·rw[e.1,e.2.1]
   exact A2 I q
  ·exact Fx I t rt x c
theorem KA{K:Wb}:∀{ks:List (Int×Int)} {c:List V_} {ds:LD} {xs:List V} {g:List (List Key×V_×V5)} {d:D},ks.length=c.length->FU (ks.zip (c.zip xs)) g->g7 K H ds xs->PF ks ds j=some d->∃v a u,atKey g (kk j)=some (a,u)/\RelV v u/\Rep K H d v
 | [],_,_,_,_,d,_,_,_,e=>by cases e
 | _::_,[],_,_,_,_,hl,_,_,_=>by cases hl
 | k::ks,a::c,[],xs,g,d,hl,h,r,e=>by cases e
 | k::ks,a::c,d'::ds,xs,g,d,hl,h,r,e=>by
  obtain⟨v,B,rfl,q,s⟩:=r;cases h with
  | @cons _ b _ ls eb t =>
  obtain⟨w,n,i⟩:=b;cases (show w=_ from eb.1);by_cases l:k=j
  ·subst l
   have m:some d'=some d:=by rw[<- e];exact(Wc rfl).symm
   cases m;refine⟨v,n,i,?_,eb.2.2,q⟩;show((List.find? _ ((kk k,n,i)::ls)).map _)=_;rw[List.find?_cons_of_pos (by simp)];rfl
  ·have m:PF ks ds j=some d:=by rw[<- e];exact(Wu l).symm
   obtain⟨o,A,p,h1,y,x⟩:=KA (by simpa using hl) t s m;refine⟨o,A,p,?_,y,x⟩;show((List.find? _ ((kk k,n,i)::ls)).map _)=_;rw[List.find?_cons_of_neg (by simpa using λz=>l (Ki z))];exact h1
def NR(e:Lo x y=some r):∃a b i j,x=.dcp a b/\y=.tup [.int i,.int j]:=by
 obtain⟨p,g,e⟩:=d7 e;obtain⟨l,d,e⟩:=d7 e;obtain⟨r,c,e⟩:=d7 e;cases S5 d;cases Il c;cases x<;>cases g;exact⟨_,_,_,_,rfl,rfl⟩
def mD{f g:R->OD}(hu:X.A.units+1<cLine)(ho:SE X o f)(hi:SE X i g)(hs:QO i:=by exact λ_ _=>rfl):SE X (.Subscript o i pos) (d6 Lo f g):=by
 intro j s L H Q I c;obtain⟨ρ,d,S,e,q⟩:=c;obtain⟨x,e1,e⟩:=d7 e;obtain⟨y,e2,e⟩:=d7 e;refine Hm PySem.F.slot_dict_getitem.lookup hs (rg (ho j s L H (λv m=>g6 H m/\Rep X.K m x v) I ⟨ρ,x,S,e1,λv m s1 r1=>⟨s1,r1⟩⟩) λu s1 c=>?_);obtain⟨v,m,I1,Y,n,W⟩:=c;obtain⟨ks,dd,k1,k2,rfl,rfl⟩:=NR e;obtain⟨b,kas,xs,rfl,hD,r⟩:=W;cases Y;refine rg (hi j s1 L m (λv l=>g6 m l/\Rep X.K l (.tup [.int k1,.int k2]) v) I1 ⟨ρ,_,S.mono n,e2,λv l s2 r2=>⟨s2,r2⟩⟩) λiv s2 c=>?_
 obtain⟨y,l,B,U,h,Z⟩:=c;rcases ye (k:=.inr (k1,k2)) Z with ⟨_,J,_⟩ | ⟨p',ka,J,rfl,C⟩
 ·cases J
 cases J;cases (show iv=_ from U);obtain⟨⟨hm,O,hl⟩,ob,P,w,hq,T⟩:=hD.to (λ_ _=>KQ h) λo u z=>h _ _ z
 obtain⟨_,qs,es,ep,N,hx,p,G,E⟩:=T.any X.prog X.w;have g:s2.heap.get? b=some ob:=(B.hok b _ hq).1;have t:s2.heap.DictOfH (tupleKind (l7 X.prog X.w)) b qs:=⟨ob,es,ep,g,hx,p,G,Fx B O N,E⟩
 obtain⟨M,a',u',h1,h2,h3⟩:=KA (yV O) N (r.mono h) e;exact⟨t.typeIs,wpAny_getItem_heap (tupleKind_room_in1 hu) (A2 B C) t h1 ⟨M,l,B.tok _,h2,q M l (n.trans h) h3⟩⟩
end
abbrev ZK(h:WK)(z TI TO T:V_)(f:Bool):Prop:=h.get? z=some {cls:=.type "zip",dict:=none,data:=.fields #[rawInt T,.bool f,.bool false,.ref TI,.ref TO],slots:=#[]}
section
variable{prog:Wr}{w:WC}{A:WM}{E:V5->V7->Prop}{s:V7}
variable{Good:WK->Nat->Prop}{z TI TO i1 i2 T:V_}{f:Bool}{st1 st1' st2 st2':WK->Prop}{P1 P2:V5->Prop}
def HF(hz:ZK s.heap z TI TO T f)(hT:s.heap.get? T=some b)(h:∀h',ZK h' z TI TO T true->Heap.SameBut z s.heap h'->Q false {s with heap:=h' }):wpAny (model prog w) A (Builtin.SmallTypes.ownedTupleIsFree (.ref z)) Q E s:=by
 unfold Builtin.SmallTypes.ownedTupleIsFree;refine V4 (wpAny_field hz rfl (x:=rawInt T) rfl ?_);show wpAny _ _ (loadIfAlive T >>= _) _ _ s;refine V4 (W.kdx_alive hT ?_);simp only[Option.isNone_some,Bool.false_eq_true,if_false];refine V4 (wpAny_field hz rfl (x:=.bool f) rfl ?_);cases f with
 | true =>
  simp;exact V8 (h s.heap hz (Heap.SameBut.refl ..))
 | false =>
  simp;refine V4 (wpAny_setField_rec hz (by simp) λh1 a s1=>?_);exact V8 (h h1 a s1)
def kg {Q:V5->V7->Prop} (D:Ap z TI TO i1 i2) (hz:ZK s.heap z TI TO T f) {I:Obj} (hT:s.heap.get? T=some I) (hI:IsPair s.heap TI (.ref i1) (.ref i2))
    (M:Good s.heap s.toks) (cl:Cl Good [z,i1,i2]) (n1:Nx prog w A (uH s) Good i1 st1 st1' P1) (m:Nx prog w A (uH s) Good i2 st2 st2' P2) (F:st1 s.heap) (C:st2 s.heap)
    (K:∀a tk h g,Good a tk->P1 h->P2 g->ZK a z TI TO T true->IsPair a TI (.ref i1) (.ref i2)->st1' a->st2' a->(∀c o,c≠z->c≠i1->c≠i2->s.heap.get? c=some o->a.get? c=some o) ->
      Q (.ref a.objs.size) (uH s (a.push {cls:=.type "tuple",data:=.seq #[h,g]}) tk)) :
    wpAny (model prog w) A (Builtin.«zip.__next__» ⟨[.ref z],[]⟩) (λfin B=>∃v,fin=.done (.ret v)/\Q v B) E s:=by
  show wpAny _ _ (field (.ref z) 2 >>= _) _ _ _;refine V4 (wpAny_field hz rfl (x:=.bool false) rfl ?_);show wpAny _ _ (field (.ref z) 3 >>= _) _ _ _;refine V4 (wpAny_field hz rfl (x:=.ref TI) rfl ?_);refine V4 (wpAny_seqItems hI rfl ?_);show wpAny _ _ (Builtin.SmallTypes.ownedTupleIsFree (.ref z) >>= _) _ _ _;refine V4 (HF hz hT λh1 p s1=>?_);have l:∀b o,b≠z->s.heap.get? b=some o->h1.get? b=some o:=s1.extBut;have t:Good h1 s.toks:=cl z (by simp) _ _ _ _ M l;simp only[Bool.false_eq_true,if_false];refine V4 ?_;rw[<- Array.forIn_toList];simp only[List.forIn_cons,List.forIn_nil];refine V4 (V4 (wpAny_holding ?_));show wpAny _ _ (Builtin.SmallTypes.nextOf (.ref i1) >>= _) _ _ _;refine V4 (n1.run h1 s.toks _ _ t (n1.stay _ _ F λo=>l _ o D.a3) λh i e H y s2=>V8 ?_);have k:∀b o,b≠i1->h1.get? b=some o->i.get? b=some o:=s2.extBut;have r:Good i e:=cl i1 (by simp) _ _ _ _ t k;refine V8 ?_;refine V4 (V4 (wpAny_holding ?_));show wpAny _ _ (Builtin.SmallTypes.nextOf (.ref i2) >>= _) _ _ (uH s i e);refine V4 (m.run i e _ _ r (m.stay _ _ C λo q=>k _ o D.b1.symm (l _ o D.a4 q)) λg n d G u s4=>V8 ?_);have j:∀b o,b≠i2->i.get? b=some o->n.get? b=some o:=s4.extBut;have L:Good n d:=cl i2 (by simp) _ _ _ _ r j;refine V8 (V8 ?_);show wpAny _ _ (newTuple [h,g] >>= _) _ _ _;refine V4 (wpAny_newTuple (s:=uH s n d) ?_);refine V8 ⟨_,rfl,K n d h g L H G (j _ _ D.a4.symm (k _ _ D.a3.symm p)) (j _ _ D.a7 (k _ _ D.a6 (l _ _ D.a1 hI))) (n1.stay' _ _ y λo q=>j _ o D.b1 q) u λc o n1 m J q=>j _ _ J (k _ _ m (l _ _ n1 q))⟩
def km(D:Ap z TI TO i1 i2)(hz:ZK s.heap z TI TO T f)(hT:s.heap.get? T=some h)(hI:IsPair s.heap TI (.ref i1) (.ref i2))
  (p:Good s.heap s.toks) (cl:Cl Good [z,i1,i2]) (g:st1 s.heap) (n:Ne prog w A (uH s) Good i1 st1)
  (l:∀h' tk e,Good h' tk->(∀c o,c≠z->c≠i1->s.heap.get? c=some o->h'.get? c=some o)->(∃o,h'.get? e=some o/\o.cls=.type "StopIteration")->E (.ref e) (uH s h' tk)) :
  wpAny (model prog w) A (Builtin.«zip.__next__» ⟨[.ref z],[]⟩) Q E s:=by
 show wpAny _ _ (field (.ref z) 2 >>= _) _ _ _;refine V4 (wpAny_field hz rfl (x:=.bool false) rfl ?_);show wpAny _ _ (field (.ref z) 3 >>= _) _ _ _;refine V4 (wpAny_field hz rfl (x:=.ref TI) rfl ?_);refine V4 (wpAny_seqItems hI rfl ?_);show wpAny _ _ (Builtin.SmallTypes.ownedTupleIsFree (.ref z) >>= _) _ _ _;refine V4 (HF hz hT λh1 j s1=>?_);have a:∀b o,b≠z->s.heap.get? b=some o->h1.get? b=some o:=s1.extBut;have d:Good h1 s.toks:=cl z (by simp) _ _ _ _ p a;simp only[Bool.false_eq_true,if_false];refine V4 ?_;rw[<- Array.forIn_toList];simp only[List.forIn_cons,List.forIn_nil];refine V4 (V4 (wpAny_holding ?_));show wpAny _ _ (Builtin.SmallTypes.nextOf (.ref i1) >>= _) _ _ _;refine V4 (n.run h1 s.toks _ _ d (n.stay _ _ g λo=>a _ o D.a3) λm e s2 k=>?_);exact l m s.toks e (cl i1 (by simp) _ _ _ s.toks d s2) (λc o n1 i q=>s2 _ _ i (a _ _ n1 q)) k
def j6 {Q:V5->V7->Prop} (D:Ap z TI TO i1 i2) (hz:ZK s.heap z TI TO T f) {j:Obj} (hT:s.heap.get? T=some j) (hI:IsPair s.heap TI (.ref i1) (.ref i2))
    (m:Good s.heap s.toks) (cl:Cl Good [z,i1,i2]) (n1:Nx prog w A.in1 (uH s) Good i1 st1 st1' P1) (k:Nx prog w A.in1 (uH s) Good i2 st2 st2' P2) (i:st1 s.heap) (h:st2 s.heap)
    (l:∀a tk e d,Good a tk->P1 e->P2 d->ZK a z TI TO T true->IsPair a TI (.ref i1) (.ref i2)->st1' a->st2' a->(∀c o,c≠z->c≠i1->c≠i2->s.heap.get? c=some o->a.get? c=some o) ->
      Q (.ref a.objs.size) (uH s (a.push {cls:=.type "tuple",data:=.seq #[e,d]}) tk)) :
    wpAny (model prog w) A (pyNext (.ref z)) (λr g=>∃v,r=some v/\Q v g) E s:=by
  have b:s.TypeIs (.ref z) "zip":=⟨_,hz,rfl⟩
  unfold pyNext
  exact V4 (wpAny_attempt (wpAny_callSpecial?_slot (name:=oS "__next__") b F.slot_zip_next (wpAny_call_entry F.slot_zip_next b F.entry_zip_next
      (kg (Q:=λv g=>_) D hz hT hI m cl n1 k i h λa tk e d c1 c2 c3 c4 c5 c6 c7 c8=>V8 ⟨_,rfl,l a tk e d c1 c2 c3 c4 c5 c6 c7 c8⟩) (F.args_zip_next_1 _))))
def lM(D:Ap z TI TO i1 i2)(hz:ZK s.heap z TI TO T f)(hT:s.heap.get? T=some g)(hI:IsPair s.heap TI (.ref i1) (.ref i2))
  (m:Good s.heap s.toks) (cl:Cl Good [z,i1,i2]) (d:st1 s.heap) (n:Ne prog w A.in1 (uH s) Good i1 st1)
  (k:∀h' tk,Good h' tk->(∀c o,c≠z->c≠i1->s.heap.get? c=some o->h'.get? c=some o)->Q none (uH s h' tk)):wpAny (model prog w) A (pyNext (.ref z)) Q E s:=by
 have a:s.TypeIs (.ref z) "zip":=⟨_,hz,rfl⟩
 unfold pyNext
 refine V4 (wpAny_attempt (wpAny_callSpecial?_slot (name:=oS "__next__") a F.slot_zip_next (wpAny_call_entry F.slot_zip_next a F.entry_zip_next
  (km D hz hT hI m cl d n λh' tk e l kk i=>?_) (F.args_zip_next_1 _))))
 obtain⟨o,h,j⟩:=i;exact V4 (wpAny_isInstance (s:=uH s h' tk) (T:="StopIteration") (b:=true) ⟨o,h,j⟩ isSubtype_stop (V8 (k _ _ l kk)))
end
end HW
namespace HW
open PySem PySem.Calls PySem.Spec PyProof.Rows L2
def je:typeLookup (.type "zip") "__len__" = pure none:=by rw[typeLookup_type,builtinLookup_eq_fast];kernel_rfl
def iq:typeLookup (.type "zip") "__length_hint__" = pure none:=by rw[typeLookup_type,builtinLookup_eq_fast];kernel_rfl
abbrev BJ(its:List V5)(k:Nat):Obj:={cls:=.type "list",data:=.seq its.toArray k}
section
variable{X:Cx}{pins:List (V_×Obj)}{σ:L2.St}{H1:Hp}{xs ys:LD}{S T:Src}{z TI TO i1 i2 L:V_}
def Vk(z TI TO i1 i2 L:V_)(i:Nat)(h:WK):Prop:=(i=0/\IsZip h z TI TO .none)\/(0<i/\∃T f o,ZK h z TI TO T f/\h.get? T=some o/\T≠z/\T≠i1/\T≠i2/\T≠L)
structure QY (X:Cx) (pins:List (V_×Obj)) (σ:L2.St) (H1:Hp) (xs ys:LD) (S T:Src) (z TI TO i1 i2 L:V_) (i:Nat) (H:Hp) (vs:List V) (its:List V5) (k:Nat) (s:V7):Prop where
 I:L2.Inv X pins σ H s
 same:g6 H1 H
 zs:Vk z TI TO i1 i2 L i s.heap
 hI:IsPair s.heap TI (.ref i1) (.ref i2)
 hO:∃a b,IsPair s.heap TO a b
 a1:S.at i1 i s.heap
 a2:T.at i2 i s.heap
 fr:∀c ∈ [z,TI,TO,i1,i2,L],H c=none
 lst:s.heap.get? L=some (BJ its k)
 reps:g7 X.K H ((Dk xs ys).take i) vs
def Ak{prog:Wr}{w:WC}{A:WM}{c:WK->Nat->V7}{Good a:WK->Nat->Prop}{it:V_}{st b:WK->Prop}{P:V5->Prop}(n:Nx prog w A c Good it st b P)(h:∀h tk,a h tk->Good h tk):Nx prog w A c a it st b P:=⟨n.stay,n.stay',λh' tk Q E g=>n.run h' tk Q E (h _ _ g)⟩
variable(D:Ap z TI TO i1 i2)(hL:L≠z/\L≠TI/\L≠TO/\L≠i1/\L≠i2)(hfp:∀c ∈ [z,TI,TO,i1,i2,L],vP X pins H1 c)(dS:Ka X.K H1 xs S)(dT:Ka X.K H1 ys T)(hlen:xs.length=ys.length)
include D hL hfp dS dT hlen
theorem OA{i:Nat}{k:Nat}(q:QY X pins σ H1 xs ys S T z TI TO i1 i2 L i H O f k s)(hi:i<xs.length) :
  wpAny (model X.prog X.w) A (pyNext (.ref z)) (λr C=>∃v u t,r=some u/\RelV v u/\QY X pins σ H1 xs ys S T z TI TO i1 i2 L (i+1) t (O++[v]) f k C) E s:=by
 obtain⟨I,same,zs,hI,⟨oa,ob,hO⟩,a1,a2,fr,lst,reps⟩:=q;obtain⟨l1,l2,l3,l4,l5⟩:=hL;obtain⟨v,g1,r1⟩:=Ht dS (Kp.of same) (List.getElem?_eq_getElem hi);obtain⟨u,g2,r2⟩:=Ht dT (Kp.of same) (List.getElem?_eq_getElem (show i<ys.length by omega))
 have cl0:∀c ∈ [z,TI,TO,i1,i2],∀h tk h' j,(L2.Inv X pins σ H (uH s h tk)/\h.get? L=some (BJ f k))->(∀b o,b≠c->h.get? b=some o->h'.get? b=some o)->(L2.Inv X pins σ H (uH s h' j)/\h'.get? L=some (BJ f k)):=λc l h tk h' j p kp=>by
  obtain⟨J,jl⟩:=p;have Y:c ∈ [z,TI,TO,i1,i2,L]:=by simp only[Wo,List.not_mem_nil,or_false] at l ⊢;rcases l with rfl | rfl | rfl | rfl | rfl<;>simp
  obtain⟨f0,f1,f2,f3,f4,f5⟩:=hfp c Y;refine⟨J.turned (t':=j) kp (fr c Y) f1 f3 f4 f5,kp _ _ ?_ jl⟩;simp only[Wo,List.not_mem_nil,or_false] at l;rcases l with rfl | rfl | rfl | rfl | rfl<;>assumption
 have row:(Dk xs ys).take (i+1)=(Dk xs ys).take i++[.tup [xs[i],ys[i]]]:=by
  rw[List.take_add_one];congr 1;unfold Dk;rw[List.getElem?_zipWith,List.getElem?_eq_getElem hi,List.getElem?_eq_getElem (show i<ys.length by omega)];rfl
 have fin:∀(d:WK) (F:WK) (tk:Nat) (y x:V5),(L2.Inv X pins σ H (uH s d tk)/\d.get? L=some (BJ f k))->RelV v y->RelV u x->(∀c o,c≠z->(d.push {cls:=.type "tuple",data:=.seq #[y,x]}).get? c=some o->F.get? c=some o)->(∃oz,d.get? z=some oz)->IsPair d TI (.ref i1) (.ref i2)->(∃a b,IsPair d TO a b)->S.at i1 (i+1) d->T.at i2 (i+1) d->(d.objs.size≠z->d.objs.size≠i1->d.objs.size≠i2->d.objs.size≠L->(∃o,F.get? d.objs.size=some o)->Vk z TI TO i1 i2 L (i+1) F) ->
   ∃v t,RelV v (.ref d.objs.size)/\QY X pins σ H1 xs ys S T z TI TO i1 i2 L (i+1) t (O++[v]) f k (uH s F tk):=λd F tk y x hA W U k9 hB M hC K G zf=>by
  obtain⟨N,L5⟩:=hA;obtain⟨oz,B⟩:=hB;obtain⟨b1,b2,O5⟩:=hC;have hn:H d.objs.size=none:=N.hok.fresh (Wl _);have lt:∀{c o},d.get? c=some o->c≠d.objs.size:=λe=>WA (Wp e)
  have J6:L2.Inv X pins σ (upd H d.objs.size (.tup [v,u])) {uH s d tk with heap:=d.push {cls:=.type "tuple",data:=.seq #[y,x]},toks:=tk}:=
   N.laid (t':=tk) (λb u e=>V6 _ e) (Wl _) ⟨show 2<=sizeLine by decide,[y,x],.cons W (.cons U .nil),⟨_,Wf _ rfl,rfl,⟨_,rfl⟩,rfl⟩⟩
  obtain⟨f0,f1,f2,f3,f4,f5⟩:=hfp z (by simp);have J9:L2.Inv X pins σ (upd H d.objs.size (.tup [v,u])) (uH s F tk):=J6.turned (t':=tk) k9 (by rw[ac (lt B)];exact fr z (by simp)) f1 f3 f4 f5;have P:∀c o,c≠z->d.get? c=some o->F.get? c=some o:=λc o n e=>k9 c o n (V6 _ e)
  have sm:=ar hn (.tup [v,u]);obtain⟨o1,e1,_⟩:=Src.obj_at K;obtain⟨o2,e2,_⟩:=Src.obj_at G;refine⟨.ref d.objs.size,_,rfl,J9,same.trans sm,zf (Ne.symm (lt B)) (Ne.symm (lt e1)) (Ne.symm (lt e2)) (Ne.symm (lt L5)) ⟨_,k9 _ _ (Ne.symm (lt B)) (Wf _ rfl)⟩,P _ _ D.a1 M,⟨b1,b2,P _ _ D.a2 O5⟩,Src.keep K λo=>P _ o D.a3,Src.keep G λo=>P _ o D.a4,λc l=>?_,P _ _ l1 L5,?_⟩
  ·have lv:∃o,d.get? c=some o:=by
    simp only[Wo,List.not_mem_nil,or_false] at l;rcases l with rfl | rfl | rfl | rfl | rfl | rfl
    ·exact⟨_,B⟩
    ·exact⟨_,M⟩
    ·exact⟨_,O5⟩
    ·exact⟨_,e1⟩
    ·exact⟨_,e2⟩
    ·exact⟨_,L5⟩
   obtain⟨o,e⟩:=lv;rw[ac (lt e)];exact fr c l
  ·rw[row]
   exact(reps.mono sm).append (g7.one ⟨_,_,rfl,tS.of aa,v,[u],rfl,r1.mono sm,u,[],rfl,r2.mono sm,rfl⟩)
 rcases zs with ⟨rfl,hz⟩ | ⟨hi0,T0,f0,o0,hz,Z,n1,n2,n3,n4⟩
 ·refine rg (ji (Good:=λh tk=>L2.Inv X pins σ H (uH s h tk)/\h.get? L=some (BJ f k)) (Q:=λw C=>∃v t,RelV v w/\QY X pins σ H1 xs ys S T z TI TO i1 i2 L (0+1) t (O++[v]) f k C) D hz hI hO ⟨I,lst⟩
   (λc l h tk h' j g kp=>cl0 c (by simp only[Wo,List.not_mem_nil,or_false] at l ⊢;rcases l with rfl | rfl | rfl | rfl<;>simp) h tk h' j g kp) (Ak (gj g1) λ_ _ g=>g.1) (Ak (gj g2) λ_ _ g=>g.1) a1 a2 λd tk y x h8 N W U B M O5 K G z8 k8=>fin d h8 tk y x N W U k8 ⟨_,B⟩ M ⟨_,_,O5⟩ K G λm1 m2 m3 m4 m=>by obtain⟨o9,e9⟩:=m;exact .inr ⟨by omega,d.objs.size,false,o9,z8,e9,m1,m2,m3,m4⟩) λr C p=>by obtain⟨w,e,v',t,c⟩:=p;exact⟨v',w,t,e,c⟩
 ·refine rg (j6 (Good:=λh tk=>L2.Inv X pins σ H (uH s h tk)/\h.get? L=some (BJ f k)) (Q:=λw C=>∃v t,RelV v w/\QY X pins σ H1 xs ys S T z TI TO i1 i2 L (i+1) t (O++[v]) f k C) D hz Z hI ⟨I,lst⟩
   (λc l h tk h' j g kp=>cl0 c (by simp only[Wo,List.not_mem_nil,or_false] at l ⊢;rcases l with rfl | rfl | rfl<;>simp) h tk h' j g kp) (Ak (gj g1) λ_ _ g=>g.1) (Ak (gj g2) λ_ _ g=>g.1) a1 a2 λd tk y x N W U B M K G k5=>fin d (d.push {cls:=.type "tuple",data:=.seq #[y,x]}) tk y x N W U (λc o n e=>e) ⟨_,B⟩ M ⟨_,_,k5 _ _ D.a2 D.a8 D.a9 hO⟩ K G λ_ _ _ _ _=>.inr ⟨by omega,T0,true,o0,V6 _ B,V6 _ (k5 _ _ n1 n2 n3 Z),n1,n2,n3,n4⟩) λr C p=>by obtain⟨w,e,v',t,c⟩:=p;exact⟨v',w,t,e,c⟩
theorem QJ(o:A.handled=none){i:Nat}{k:Nat}(q:QY X pins σ H1 xs ys S T z TI TO i1 i2 L i H j a k s)(n:i=xs.length)(h0:0<i)
  (p:∀e,L2.Inv X pins σ H e->e.heap.get? L=some (BJ a k)->Q none e):wpAny (model X.prog X.w) A (pyNext (.ref z)) Q E s:=by
 obtain⟨I,same,zs,hI,⟨x,ob,hO⟩,a1,a2,fr,lst,reps⟩:=q;obtain⟨m,N,M,l,K⟩:=hL;rcases zs with ⟨rfl,_⟩ | ⟨_,P,f0,y,hz,f,n1,F,C,B⟩
 ·omega
 refine lM (Good:=λh tk=>L2.Inv X pins σ H (uH s h tk)) (st1:=λh=>S.at i1 i h) D hz f hI I (λc g h tk h' d J kp=>?_) a1 (pA o (Jy dS (Kp.of same) (Nat.le_of_eq n.symm))) λh' tk G kk=>p _ G (kk _ _ m l lst)
 have b:c ∈ [z,TI,TO,i1,i2,L]:=by simp only[Wo,List.not_mem_nil,or_false] at g ⊢;rcases g with rfl | rfl | rfl<;>simp
 obtain⟨f0,v,O,u,t,r⟩:=hfp c b;exact J.turned (t':=d) kp (fr c b) v u t r
theorem Ob(hh:A.in1.handled=none)(hz1:xs.length<=1000)(hn:0<xs.length)(hR:∀H f c k g,L2.Inv X pins σ H g->g6 H1 H->H L=none->g.heap.get? L=some (BJ c k)->qP f c->g7 X.K H (Dk xs ys) f->G (.ok (.ret res)) g):∀(m i:Nat) (H:Hp) (f:List V) (c:List V5) (k:Nat) (s:V7),xs.length - i=m->i<=xs.length->QY X pins σ H1 xs ys S T z TI TO i1 i2 L i H f c k s->qP f c ->
  codeAny (model X.prog X.w) A (.builtin "list.extend.loop" ⟨[.ref L,.ref z,res],[]⟩) G s:=by
 intro m
 induction m with
 | zero =>
  intro i H f c k s hk hi q n;refine WR F.entry_extend_loop ?_;rw[Around.under_plainId F.plain_extend_loop _];show wpAny _ A.in1 (pyNext (.ref z) >>= _) _ _ s;refine V4 (QJ D hL hfp dS dT hlen hh q (by omega) (by omega) λg C l'=>V8 (hR H f c k g C q.same (q.fr L (by simp)) l' n ?_));have:=q.reps;rw[List.take_of_length_le (by rw[zl];omega)] at this;exact this
 | succ m ih =>
  intro i H f c k s hk hi q n;refine WR F.entry_extend_loop ?_;rw[Around.under_plainId F.plain_extend_loop _];show wpAny _ A.in1 (pyNext (.ref z) >>= _) _ _ s;refine V4 (Xj (OA D hL hfp dS dT hlen q (by omega)) ?_ λ_ _ e=>e);rintro _ g ⟨v,u,H',rfl,M,C,J,p,x,t,B,y,l,h,j⟩;have hvl:=n.length;have hvn:f.length<=i:=by rw[<- q.reps.length,Xn];omega
  have z9:1000<=sizeLine:=by decide
  show wpAny _ A.in1 (updateSeq L (·.push u) >>= _) _ _ _;refine V4 ?_;refine wpAny_updateSeq h rfl (V8 ⟨plainId_quiet F.plain_extend_loop _,ih (i+1) H' (f++[v]) (c++[u]) (if (c.toArray.push u).size==c.toArray.size then k else k+1) _ (by omega) (by omega) ?_ (n.append (.cons M .nil))⟩) (by rw[Wy];omega) (by show(c.toArray.push u).size<=sizeLine+1;rw[Array.size_push,Wy];omega);have d:∀b o,b≠L->g.heap.get? b=some o->(g.heap.update L (Obj.mapSeq (·.push u))).get? b=some o:=λb o hb e=>(WF _ _ (Ne.symm hb)).trans e
  obtain⟨Z,Y,W,U,Q⟩:=hL;obtain⟨f0,f1,f2,f3,f4,f5⟩:=hfp L (by simp);refine⟨C.turned (it:=L) (t':=g.toks) d (l L (by simp)) f1 f3 f4 f5,J,?_,d _ _ (Ne.symm Y) x,let ⟨a,b,e⟩:=t;⟨a,b,d _ _ (Ne.symm W) e⟩,Src.keep B λo e=>d _ o (Ne.symm U) e,Src.keep y λo e=>d _ o (Ne.symm Q) e,l,?_,j⟩
  ·rcases p with ⟨e,_⟩ | ⟨e,T0,ff,N,hz,r,n1,P,O,E⟩
   ·omega
   ·exact .inr ⟨e,T0,ff,N,d _ _ (Ne.symm Z) hz,d _ _ E r,n1,P,O,E⟩
  ·have I:=WX (Obj.mapSeq (·.push u)) h rfl
   have e9:c.toArray.push u=(c++[u]).toArray:=by simp
   show _=some (BJ (c++[u]) _);unfold BJ;rw[<- e9];exact I
omit hL hfp
theorem Om(hh:A.handled=none)(O:xs.length<=1000)(hn:0<xs.length)(I:L2.Inv X pins σ H1 s)(g:∀c ∈ [z,TI,TO,i1,i2],vP X pins H1 c)(hz:IsZip s.heap z TI TO .none)(hI:IsPair s.heap TI (.ref i1) (.ref i2))(hO:∃a b,IsPair s.heap TO a b)(a1:S.at i1 0 s.heap)(a2:T.at i2 0 s.heap)
  (hQ:∀G x l p,L2.Inv X pins σ G x->g6 H1 G->G l=some (.lst p)->g7 X.K G (Dk xs ys) p->Q (.ref l) x):wpAny (model X.prog X.w) A (call (.type "list") [.ref z]) Q E s:=by
 refine callType_codes (Q₁:=λobj n=>obj=.ref s.heap.objs.size/\n={s with heap:=s.heap.push {cls:=.type "list",data:=.seq #[]} }) PySem.F.called_list (PySem.F.typeCall_list_1 _) PySem.F.entry_list_init (code_list_new _ ⟨rfl,rfl⟩) λobj n u=>?_
 obtain⟨rfl,rfl⟩:=u;have C:(s.heap.push {cls:=.type "list",data:=.seq #[]}).get? s.heap.objs.size=some {cls:=.type "list",data:=.seq #[]}:=Wf _ rfl;have lv:∀{c o},s.heap.get? c=some o->c≠s.heap.objs.size:=λe=>WA (Wp e)
 obtain⟨oa,ob,v⟩:=hO;obtain⟨p1,e1,_⟩:=Src.obj_at a1;obtain⟨p2,e2,_⟩:=Src.obj_at a2;have hL:s.heap.objs.size≠z/\s.heap.objs.size≠TI/\s.heap.objs.size≠TO/\s.heap.objs.size≠i1/\s.heap.objs.size≠i2:=⟨Ne.symm (lv hz),Ne.symm (lv hI),Ne.symm (lv v),Ne.symm (lv e1),Ne.symm (lv e2)⟩
 have fL:vP X pins H1 s.heap.objs.size:=I.fpOk (Wl _) (I.hok.fresh (Wl _));have I0:L2.Inv X pins σ H1 {s with heap:=s.heap.push {cls:=.type "list",data:=.seq #[]} }:=I.kept (t':=s.toks) λb o e=>V6 _ e
 have d:∀b o,s.heap.get? b=some o->(s.heap.push {cls:=.type "list",data:=.seq #[]}).get? b=some o:=λb o e=>V6 _ e
 generalize hLs:s.heap.objs.size=L at *
 generalize s.heap.push {cls:=.type "list",data:=.seq #[]}=h0 at *
 have hfp:∀c ∈ [z,TI,TO,i1,i2,L],vP X pins H1 c:=λc B=>by
  simp only[Wo,List.not_mem_nil,or_false] at B;rcases B with rfl | rfl | rfl | rfl | rfl | rfl
  ·exact g _ (by simp)
  ·exact g _ (by simp)
  ·exact g _ (by simp)
  ·exact g _ (by simp)
  ·exact g _ (by simp)
  ·exact fL
 obtain⟨y,l2,l3,l4,l5⟩:=id hL;obtain⟨f0,f1,f2,Z,Y,W⟩:=id fL;refine⟨⟨_,C,rfl⟩,PySem.F.args_list_init_2 _ _,?_⟩;show wpAny _ _ (do let M <- Builtin.List.listItems (.ref L);Builtin.List.listUpdate (.ref L) (λ_=>#[]);letGo M.toList.reverse;Builtin.List.listExtendWith (.ref L) (.ref z) .none) _ _ _;refine V4 ?_;unfold Builtin.List.listItems;refine V4 (wpAny_seqItems (s:={s with heap:=h0}) C rfl (V8 ?_));show wpAny _ _ (updateSeq L (λ_=>#[]) >>= λ_=>letGo (#[]:Array V5).toList.reverse >>= λ_=>Builtin.List.listExtendWith (.ref L) (.ref z) .none) _ _ _;refine V4 (wpAny_updateSeq (s:={s with heap:=h0}) C rfl ?_);have j:=WX (Obj.mapSeq (λ_=>(#[]:Array V5))) C rfl;have J:∀(h:WK) (f:Array V5->Array V5) b o,b≠L->h.get? b=some o->(h.update L (Obj.mapSeq f)).get? b=some o:=λh f b o m e=>(WF _ _ (Ne.symm m)).trans e
 refine V4 (wpAny_letGo ?_);generalize U:h0.update L (Obj.mapSeq (λ_=>(#[]:Array V5)))=h2 at *
 have k2:∀b o,b≠L->h0.get? b=some o->h2.get? b=some o:=λb o m e=>by rw[<- U];exact J _ _ b o m e
 have I2:=I0.turned (it:=L) (h':=h2) (t':=s.toks) k2 f0 f1 Z Y W;have q:Shared.TypeIs {s with heap:=h2} (.ref z) "zip":=⟨_,k2 _ _ (Ne.symm y) (d _ _ hz),rfl⟩
 unfold Builtin.List.listExtendWith;refine V4 (wpAny_typeOf (s:={s with heap:=h2}) (T:="zip") q ?_);have h1:Builtin.List.listSameRef (.ref L) (.ref z)=false:=by simp[Builtin.List.listSameRef,y]
 simp only[h1,show(Value.type "zip" == Value.type "list")=false by decide,show(Value.type "zip" == Value.type "tuple")=false by decide,Bool.or_false,Bool.false_eq_true,if_false];refine V4 (wpAny_pyIter_zip (s:={s with heap:=h2}) (k2 _ _ (Ne.symm y) (d _ _ hz)) ?_);refine V4 (wpAny_holding ?_);unfold Builtin.List.listLengthHint;refine V4 (wpAny_specialOf (s:={s with heap:=h2}) q je ?_);show wpAny _ _ (specialOf (Value.ref z) (oS "__length_hint__") >>= _) _ _ _;refine V4 (wpAny_specialOf (s:={s with heap:=h2}) q iq ?_);refine V8 ?_;show wpAny _ _ (rule "list.extend.makes-room" >>= λ_=>Builtin.List.listTouch (.ref L) >>= λ_=>again (.builtin "list.extend.loop" ⟨[.ref L,.ref z,.none],[]⟩)) _ _ _;refine V4 (wpAny_rule ?_);refine V4 ?_;show wpAny _ _ (updateSeq L (·.push .none) >>= λ_=>updateSeq L (·.pop)) _ _ _;refine V4 (wpAny_updateSeq (s:={s with heap:=h2}) j rfl ?_);have i:=WX (Obj.mapSeq (·.push Value.none)) j rfl;refine wpAny_updateSeq (hz:=by seq_fits) (s:={s with heap:=h2.update L (Obj.mapSeq (·.push Value.none))}) i rfl ?_;have r:=WX (Obj.mapSeq (·.pop)) i rfl;generalize P:(h2.update L (Obj.mapSeq (·.push Value.none))).update L (Obj.mapSeq (·.pop))=h4 at *
 have k4:∀b o,b≠L->h2.get? b=some o->h4.get? b=some o:=λb o m e=>by rw[<- P];exact J _ _ b o m (J _ _ b o m e)
 have I4:=I2.turned (it:=L) (h':=h4) (t':=s.toks) k4 f0 f1 Z Y W;have t:∀b o,b≠L->s.heap.get? b=some o->h4.get? b=some o:=λb o m e=>k4 _ _ m (k2 _ _ m (d _ _ e))
 refine V8 ⟨plainId_quiet F.plain_extend_loop _,Ob D hL hfp dS dT hlen (A:=A.in1) hh O hn (λH p N k x I' sm hl l' va rp=>?_) xs.length 0 H1 [] [] _ {s with heap:=h4} (by omega) (W4 _) ⟨I4,g6.refl _,.inl ⟨rfl,t _ _ (Ne.symm y) hz⟩,t _ _ (Ne.symm l2) hI,⟨oa,ob,t _ _ (Ne.symm l3) v⟩,Src.keep a1 λo e=>t _ o (Ne.symm l4) e,Src.keep a2 λo e=>t _ o (Ne.symm l5) e,λc B=>(hfp c B).1,r,rfl⟩ .nil⟩;have s2:=ar hl (.lst p);have fA:vP X pins H L:=⟨hl,f1,f2,Z,Y,W⟩
 have z9:1000<=sizeLine:=by decide
 have hvl:p.length<=1000:=by rw[<- rp.length,zl];omega
 exact⟨rfl,hQ _ x L p (Pk (o:=.lst p) I' fA ⟨by omega,N,k,va,l'⟩) (sm.trans s2) aa (rp.mono s2)⟩
end
section
variable{X:Cx}
def Sv(e:UZ (λ_=>some x) (λ_=>some y) []=some r):∃a b,x=.lst a/\y=.lst b:=by
 obtain⟨a,d,e⟩:=d7 (o:=lI x) e;obtain⟨b,c,_⟩:=d7 e;exact⟨a,b,DK d,DK c⟩
def na(G:X.calm=true)(hm:X.mg "list" = none)(E:X.mg "zip" = none)(ha:SE X a f)(hb:SE X b g)(hg:Gl X "list":=by rfl)(F:Gl X "zip":=by rfl)(N:noStar a=true:=by rfl)(n:noStar b=true:=by rfl) :
  SE X (.Call (.Name "list" p) [.Call (.Name "zip" p') [a,b] [] pos'] [] pos) (UZ f g):=by
 have L:=ad [] X.env n;have U:=ad [b] X.env N;intro k s P H Q I h;obtain⟨ρ,d,er,e,q⟩:=h;obtain⟨x,e1,e⟩:=d7 e;obtain⟨y,e2,e⟩:=d7 e;obtain⟨xs,M,rfl,rfl⟩:=Sv e;simp only[lI,Wa] at e;split at e
 case isFalse=>cases e
 case isTrue hz =>
 cases e;obtain⟨o,h0,i⟩:=hz;refine Call_ (aE I hg hm boot_list ?_);refine PyProof.Rows.callWith_type1 (Calls.spliced_cons ?_) rfl rfl;refine Call_ (aE I F E (u:=.type "zip") (by kernel_rfl) ?_);refine PyProof.Rows.callWith_type1 (rg ((aj ha (aj hb aD n) N).1 pos' k s P H (λt J=>g6 H J/\g7 X.K J [.lst xs,.lst M] t) I ⟨ρ,[.lst xs,.lst M],er,by show(f ρ).bind _=_;rw[e1];show((g ρ).bind _).map _=_;rw[e2];rfl,λt J s2 B=>⟨s2,B⟩⟩) λus s1 h=>?_) (by rw[U,L]) (by rw[L];rfl);obtain⟨t,H1,j,r1,w,A⟩:=h;obtain⟨v,r,rfl,B,r3⟩:=A;obtain⟨u,r',rfl,r4,r5⟩:=r3;cases (show r'=_ from r5);cases r1 with
 | cons ra rr =>
  cases rr with
  | cons rb rr =>
   cases rr;obtain⟨S,rfl,Qm,dS⟩:=lV j B ra;obtain⟨T,rfl,C,dT⟩:=lV j r4 rb;refine kP Qm C λh' z TI TO i1 i2 D hz hI hO Z Y new m=>?_
   refine Calls.spliced_nil ?_;refine Om (s:={s1 with heap:=h' }) D dS dT o (j.ok.hd G) i h0 (j.kept (t':=s1.toks) m) (λc O=>j.fpOk (new c O) (j.hok.fresh (new c O))) hz hI ⟨_,_,hO⟩ Z Y λH' s' l ws I' W hl A=>?_
   exact⟨.ref l,H',I',rfl,q _ _ (w.trans W) ⟨l,ws,rfl,hl,A⟩⟩
end
end HW
namespace HW
open PySem
section
open Builtin Builtin.Str
end
end HW
namespace HW
open PySem PySem.Spec PyProof.Rows L2
abbrev Q5:List (Str×V5):=[(oS "key",.builtin "len"),(oS "default",.none)]
section
variable{prog:Wr}{w:WC}{A:WM}{R':Result->V7->Prop}{I:V_}{fp wr:List V_}{n:Nat}{St:Nat->WK->Prop}{xs:List Str}
abbrev PK(xs:List Str)(i:Nat)(v:V5):Prop:=∃x t,xs[i]?=some x/\v=.str x t
def PK.get{i:Nat}(h:PK xs i v):∃t,v=.str (xs.getD i Str.empty) t:=by
 obtain⟨x,t,h1,rfl⟩:=h;exact⟨t,by rw[Wn,h1];rfl⟩
def Nl(W:Walks prog w A.in1 I fp wr n (PK xs) St)(Y:∀x∈xs,x.length<=100000)(S:V_)(G:S∉fp):∀(k j:Nat) (s:V7) (r:V5) (u:Tok) (c:Nat),n - (j+1)=k->j+1<=n->St (j+1) s.heap->PK xs (rX (qQ xs) j) r->KB S #[r,.int ((xs.getD (rX (qQ xs) j) Str.empty).length:Nat) u] c s.heap ->
  (∀v h' tk,PK xs (rX (qQ xs) (n - 1)) v->(∀b o,b∉wr->b≠S->s.heap.get? b=some o->h'.get? b=some o)->R' (.ok (.ret v)) {s with heap:=h',toks:=tk})->codeAny (model prog w) A (.builtin "min.loop" ⟨[.ref I,.builtin "len",.ref S],[(oS "default",.none)]⟩) R' s:=by
 have E:S∉wr:=λz=>G (W.sub _ z)
 intro k
 induction k with
 | zero =>
  intro j s r u c Z hj l p H J;have C:j+1=n:=by omega
  refine WR F.entry_min_loop ?_;rw[Around.under_plainId F.plain_min_loop _];show wpAny _ A.in1 (seqItems? (.ref S) >>= _) _ _ s;refine V4 (wpAny_seqItems H rfl ?_);show wpAny _ A.in1 (tryCatch (pyNext (.ref I)) _ >>= _) _ _ s;refine V4 (wpAny_tryCatch (W.done s _ _ (C ▸ l) λh1 Q k1=>?_));have g:=k1 S _ E H;show wpAny _ A.in1 (updateSeq S (λ_=>#[]) >>= _) _ _ _;refine V4 (wpAny_updateSeq g rfl (V4 (wpAny_letGo (V8 ?_))));exact J r _ Q (by rw[<- C];exact p) λb o d f e=>(WF _ _ (Ne.symm f)).trans (k1 b o d e)
 | succ k ih =>
  intro j s r u c Z hj l p H J;have m:j+1<n:=by omega
  refine WR F.entry_min_loop ?_;rw[Around.under_plainId F.plain_min_loop _];show wpAny _ A.in1 (seqItems? (.ref S) >>= _) _ _ s;refine V4 (wpAny_seqItems H rfl ?_);show wpAny _ A.in1 (tryCatch (pyNext (.ref I)) _ >>= _) _ _ s;refine V4 (wpAny_tryCatch (W.item (j+1) s _ _ m l λv h1 Q U st1 k1=>?_));have g:=k1 S _ E H;obtain⟨x,t,B,rfl⟩:=id U;have y:xs.getD (j+1) Str.empty=x:=by rw[Wn,B];rfl
  have X:x.length<=100000:=Y x (Wi B);show wpAny _ A.in1 (tryCatch (holding [Value.str x t] (call (.builtin "len") [.str x t])) _ >>= _) _ _ _;refine V4 (wpAny_tryCatch (wpAny_holding (len_str (by omega) ?_)));show wpAny _ A.in1 (tryCatch (holding [_,_] (richCompare .Lt (.int (x.length:Nat) _) (.int _ u) >>= _)) _ >>= _) _ _ _;refine V4 (wpAny_tryCatch (wpAny_holding (V4 (CmpOf.ints_lt (prog:=prog) (w:=w) (A:=A.in1) (P:=λi v=>∃t,v=.int ((xs.getD i Str.empty).length:Nat) t) (λi=>((xs.getD i Str.empty).length:Nat)) (λi v h=>h) (j+1) (rX (qQ xs) j) _ _ _ _ _ ⟨_,by rw[y]⟩ ⟨u,rfl⟩ ?_))));refine V4 (wpAny_holding (wpAny_truthy_bool ?_));refine V4 (wpAny_letGo (V8 ?_));have M:decide (((xs.getD (j+1) Str.empty).length:Int)<((xs.getD (rX (qQ xs) j) Str.empty).length:Int))=qQ xs (j+1) (rX (qQ xs) j):=rfl;simp only[M];cases T:qQ xs (j+1) (rX (qQ xs) j) with
  | true =>
   have a:rX (qQ xs) (j+1)=j+1:=by simp only[rX,T,if_true]
   simp only[if_true];refine V4 (wpAny_updateSeq g rfl (V4 (wpAny_letGo ?_)));rw[vQ];refine V8 ⟨plainId_quiet F.plain_min_loop _,ih (j+1) _ (.str x t) _ _ (by omega) m (W.frame _ _ _ st1 λb N o e=>?_) (by rw[a];exact U) (by rw[a,y];exact WX _ g rfl) λK O L q k2=>?_⟩
   ·refine(WF _ _ λz:S=b=>G ?_).trans e;rw[z];exact N
   ·refine J K O L q λb o d f e=>k2 b o d f ?_;exact(WF _ _ (Ne.symm f)).trans (k1 b o d e)
  | false =>
   have a:rX (qQ xs) (j+1)=rX (qQ xs) j:=by simp only[rX,T,Bool.false_eq_true,if_false]
   simp only[Bool.false_eq_true,if_false];refine V4 (wpAny_letGo ?_);rw[vQ];refine V8 ⟨plainId_quiet F.plain_min_loop _,ih (j+1) _ r u c (by omega) m st1 (by rw[a];exact p) (by rw[a];exact g) λK O L q k2=>?_⟩;refine J K O L q λb o d f e=>k2 b o d f ?_;exact k1 b o d e
def Kq(W:Walks prog w A.in1 I fp wr n (PK xs) St)(r:∀x∈xs,x.length<=100000)(S:V_)(f:S∉fp){c:Nat}(h:St 0 s.heap)(u:KB S #[] c s.heap)
  (h0:n=0->∀h' tk,(∀b o,b∉wr->b≠S->s.heap.get? b=some o->h'.get? b=some o)->R' (.ok (.ret .none)) {s with heap:=h',toks:=tk})
  (G:0<n->∀v h' tk,PK xs (rX (qQ xs) (n - 1)) v->(∀b o,b∉wr->b≠S->s.heap.get? b=some o->h'.get? b=some o)->R' (.ok (.ret v)) {s with heap:=h',toks:=tk}):codeAny (model prog w) A (.builtin "min.loop" ⟨[.ref I,.builtin "len",.ref S],[(oS "default",.none)]⟩) R' s:=by
 have m:S∉wr:=λz=>f (W.sub _ z)
 refine WR F.entry_min_loop ?_;rw[Around.under_plainId F.plain_min_loop _];show wpAny _ A.in1 (seqItems? (.ref S) >>= _) _ _ s;refine V4 (wpAny_seqItems u rfl ?_);show wpAny _ A.in1 (tryCatch (pyNext (.ref I)) _ >>= _) _ _ s;by_cases k:0<n
 ·refine V4 (wpAny_tryCatch (W.item 0 s _ _ k h λv h1 q y st1 k1=>?_));have i:=k1 S _ m u
  obtain⟨x,t,g,rfl⟩:=id y;have j:xs.getD 0 Str.empty=x:=by rw[Wn,g];rfl
  have E:x.length<=100000:=r x (Wi g);show wpAny _ A.in1 (tryCatch (holding [Value.str x t] (call (.builtin "len") [.str x t])) _ >>= _) _ _ _;refine V4 (wpAny_tryCatch (wpAny_holding (len_str (by omega) ?_)));show wpAny _ A.in1 (updateSeq S (λ_=>#[_,_]) >>= _) _ _ _;refine V4 (wpAny_updateSeq i rfl ?_);rw[vQ];refine V8 ⟨plainId_quiet F.plain_min_loop _,Nl W r S f _ 0 _ (.str x t) _ _ rfl k (W.frame _ _ _ st1 λb l o e=>?_) y (by show KB S #[_,.int ((xs.getD 0 Str.empty).length:Nat) _] _ _;rw[j];exact WX _ i rfl) λB H C p k2=>?_⟩
  ·refine(WF _ _ λz:S=b=>f ?_).trans e;rw[z];exact l
  ·refine G k B H C p λb o a d e=>k2 b o a d ?_;exact(WF _ _ (Ne.symm d)).trans (k1 b o a e)
 ·have hz:n=0:=by omega
  refine V4 (wpAny_tryCatch (W.done s _ _ (hz ▸ h) λh1 q k1=>?_));refine V4 (wpAny_rule (V8 ?_));exact h0 hz h1 q λb o a d e=>k1 b o a e
end
section
variable{prog:Wr}{w:WC}{A:WM}{E:V5->V7->Prop}{s:V7}
def Jx(a:V5):argsOk "min" ⟨[a],Q5⟩:=by unfold argsOk;kernel_rfl
def j8(M:A.handled=none)(q:s.heap.IsList l a.toArray)(G:∀x∈xs,x.length<=100000)(K:a.length=xs.length)(H:∀(i:Nat) v,a.toArray[i]?=some v->PK xs i v)
  (h0:a=[]->∀h' tk,(∀b o,s.heap.get? b=some o->h'.get? b=some o)->Q .none {s with heap:=h',toks:=tk})
  (h1:a ≠ []->∀v h' tk,PK xs (rX (qQ xs) (a.length - 1)) v->(∀b o,s.heap.get? b=some o->h'.get? b=some o)->Q v {s with heap:=h',toks:=tk}) :
  wpAny (model prog w) A (call (.builtin "min") [.ref l] Q5) Q E s:=by
 refine wpAny_call (codeAny_call_builtin F.plain_min F.entry_min ?_);simp only[checkBuiltinCall,F.kind_min]
 have d:wpAny (model prog w) A.in1 (Builtin.«min» ⟨[.ref l],Q5⟩) (λfin j=>match fin with
   | .done f=>(match (Except.ok f:Result) with
    | .ok (.ret v)=>Q v j
    | .ok _=>False
    | .error e=>E e j)
   | .again c'=>c'.quiet=true/\codeAny (model prog w) A c' (λr j=>match r with
    | .ok (.ret v)=>Q v j
    | .ok _=>False
    | .error e=>E e j) j) E s:=by
  show wpAny _ A.in1 (Builtin.Builtins.bindParams "min" ["key","default"] 0 ⟨[],Q5⟩ >>= _) _ _ s;refine V4 (wpAny_of_eq (show Builtin.Builtins.bindParams "min" ["key","default"] 0 ⟨[],Q5⟩=pure [some (.builtin "len"),some .none] from rfl) ?_);refine V4 (V8 (V4 (wpAny_pyIter_list q ?_)));refine V4 (WO ?_);rw[vQ]
  have c:l<s.heap.objs.size:=by
   obtain⟨o,e,_⟩:=q;exact Wp e
  generalize hI:s.heap.objs.size=J at c;generalize g:s.heap.push {cls:=Value.type "list_iterator",data:=Data.fields #[Value.ref l,Value.int 0 0]}=H1;have C:H1.objs.size=J+1:=by rw[<- g,Heap.size_push,hI]
  have k1:∀b o,s.heap.get? b=some o->H1.get? b=some o:=λb o e=>by rw[<- g];exact V6 _ e
  have st1:H1.IsListIter J l 0/\H1.IsList l a.toArray:=⟨by rw[<- g,<- hI];exact⟨_,Wf _ rfl,rfl,rfl⟩,q.at λo e=>k1 _ _ e⟩
  have p:l≠J:=WA c
  have t:H1.objs.size ∉ [J,l]:=by
   rw[C];intro z;rcases Wo.mp z with z | z
   ·exact Wz z (Nat.ne_of_gt (Xp J))
   ·rw[<- Wh.mp z] at c
    exact Wz c (Nat.not_lt.mpr (Nat.le_succ J))
  have n:=Walks.list (prog:=prog) (w:=w) (A:=A.in1) M J l p a.toArray;have W:Walks prog w A.in1 J [J,l] [J] a.toArray.size (PK xs) (λi h=>h.IsListIter J l i/\h.IsList l a.toArray):=⟨n.sub,n.frame,λi s Q E L st N=>n.item i s Q E L st λv h' tk u=>N v h' tk (H i v u),n.done,n.self⟩
  have k:∀{h':WK},(∀b o,b ∉ [J]->b≠H1.objs.size->(H1.push {cls:=Value.type "list",data:=Data.seq ([]:List V5).toArray}).get? b=some o->h'.get? b=some o)->∀b o,s.heap.get? b=some o->h'.get? b=some o:=λ{h'} kk b o e=>by
   have y:b<J:=by rw[<- hI];exact Wp e
   refine kk b o (λz=>Wz (Wh.mp z) (WA y)) ?_ (V6 _ (k1 b o e));rw[C];exact WA (Nat.lt_succ_of_lt y)
  refine V8 ⟨plainId_quiet F.plain_min_loop _,Kq W G H1.objs.size t (W.frame _ _ _ st1 λb _ o e=>V6 _ e) (Wf _ rfl) (λhz h' tk kk=>?_) λI v h' tk u kk=>?_⟩
  ·exact h0 (by simpa using hz) h' tk (k kk)
  ·refine h1 (λz=>by subst z;simp at I) v h' tk ?_ (k kk)
   simpa using u
 cases m:Manifest.signature? "min" with
 | none=>exact V8 d
 | some sig =>
  have B:=Jx (.ref l);simp only[argsOk,m] at B;have O:Bind.checkArgs "min" sig ⟨[.ref l],Q5⟩=pure ():=B;show wpAny _ A.in1 (Bind.checkArgs "min" sig ⟨[.ref l],Q5⟩) _ _ s;rw[O];exact V8 d
end
section
variable{X:Cx}
def M4(e:zy l=some r):∃a,l=[.lst a]:=by
 obtain⟨x,rfl,e⟩:=tX e;obtain⟨a,e,_⟩:=d7 e;cases DK e;exact⟨_,rfl⟩
def mE{j:Nat}(hc:X.calm=true)(hm:X.mg "min" = none)(L:X.mg "len" = none)(he:SE X e f)(hg:Gl X "min":=by rfl)(M:Gl X "len":=by rfl)(z:noStar e=true:=by rfl) :
  SE X (.Call (.Name "min" p) [e] [⟨some "key",.Name "len" p3,kp⟩,⟨some "default",.Constant .none j p2,F⟩] pos) (d3 zy (b8 f d4)):=by
 intro y s T H Q I m;obtain⟨ρ,d,er,eq,q⟩:=m;obtain⟨ds,e1,S⟩:=d7 eq;have g:=ad [] X.env z;refine Xk (aE I hg hm boot_min ?_ (by decide) (by decide));refine callWith_kw (rg ((aj he aD z).1 pos y s T H (λE O=>g6 H O/\g7 X.K O ds E) I ⟨ρ,ds,er,e1,λE O s2 r2=>⟨s2,r2⟩⟩) λus s1 m=>?_) (by rw[g];rfl) (by rw[g];rfl) rfl rfl;obtain⟨E,C,B,r1,w,rp⟩:=m;refine kws_cons (aE B M L boot_len (kws_cons (Constant_none (kws_nil ?_))));have hh:=B.ok.hd hc;obtain⟨es,rfl⟩:=M4 S;obtain⟨xs,e3,N⟩:=d7 (show(zb es).bind _=some d from S);split at N
 case isFalse=>cases N
 case isTrue hz =>
 cases N;obtain⟨v,r',rfl,⟨a,ws,rfl,ha,U⟩,Z⟩:=rp;cases (show r'=[] from Z);obtain⟨u,rfl,Y⟩:=r1.one;cases (show u=_ from Y);obtain⟨_,l,n,W,hl,eo⟩:=B.lstM ha;obtain⟨ls,h,A⟩:=y9 e3 U W;have c:l.length=xs.length:=by rw[h,<- A];simp[strValues]
 have G:∀x∈xs,x.length<=100000:=λx G=>by simpa using Xe.mp hz.2 x G
 have J:∀(i:Nat) v,l.toArray[i]?=some v->PK xs i v:=λi v J=>by
  have b:l[i]?=some v:=by simpa using J
  rw[h] at b;unfold strValues at b;rw[Wg] at b;obtain⟨p,ep,rfl⟩:=q8 b;exact⟨p.1,p.2,by rw[<- A,Wg,ep];rfl,rfl⟩
 refine j8 hh ⟨_,eo,rfl,n,rfl⟩ G c J (λo h' tk k=>?_) λo v h' tk P k=>?_
 ·have r:xs=[]:=List.length_eq_zero_iff.mp (by rw[<- c,o];rfl)
  subst r;exact⟨.non,C,B.kept k,rfl,q _ C w rfl⟩
 ·have r:xs.isEmpty=false:=by
   cases xs with
   | nil=>exact Wz (List.length_eq_zero_iff.mp c) o
   | cons _ _=>rfl
  rw[c] at P;obtain⟨t,rfl⟩:=P.get;rw[r] at q;exact⟨.str _,C,B.kept k,⟨t,rfl⟩,q _ C w rfl⟩
end
def Fe{j l:Nat}(TB:rL X.mg [ct] X.base)(hT:X.H₀ ct.P=some (.tbl ct.q false))(tq:t.q=ct.q)(code:X.env.code=.ref ct.c)(qual:X.env.qual ++ "<lambda>" = ct.q)
  (fn:∀x,X.fn x=true) (hcl:closureFor t.scope X.env=pure [(x,c),(y,d)]) (hdf:defaultsOf t.params X.env=([],[])) (g:X.env.cells.lookup x=some c) (E:X.env.scope.names.lookup x=some .cell) (F:X.N[j]?=some x)
  (e:X.env.cells.lookup y=some d) (s:X.env.scope.names.lookup y=some .cell) (u:X.N[l]?=some y) (i:x≠y) (k:c≠d)
  (C:t.scope.kind=.function) (co:t.scope.isCoroutine=false) (gen:t.scope.isGenerator=false) (nd:t.N.Nodup) (B:t.N=t.ps++[x,y]) (par:∀y∈t.ps,t.scope.names.lookup y=some .local) (o:∀y∈t.scope.names,y.2≠.cell)
  (fre:t.scope.names.lookup x=some .free) (m:t.scope.names.lookup y=some .free) (only:∀z∈t.scope.names,z.2=.free->z.1=x\/z.1=y):DH X t [(x,c),(y,d)] ct [j,l]:=by
 have f:t.N.drop t.ps.length=[x,y]:=by rw[B,List.drop_left]
 have lk:∀z c',List.lookup z [(x,c),(y,d)]=some c'->(z=x/\c'=c)\/(z=y/\c'=d):=λz c' h=>by
  rw[List.lookup_cons] at h;cases q:z==x with
  | true=>rw[q] at h;cases h;exact .inl ⟨Xs q,rfl⟩
  | false =>
   rw[q] at h;have h':List.lookup z [(y,d)]=some c':=h;rw[List.lookup_cons] at h';cases n:z==y with
   | true=>rw[n] at h';cases h';exact .inr ⟨Xs n,rfl⟩
   | false=>rw[n] at h';cases h'
 have r:List.lookup x [(x,c),(y,d)]=some c:=by rw[List.lookup_cons];simp
 have p:List.lookup y [(x,c),(y,d)]=some d:=by
  rw[List.lookup_cons];have:(y==x)=false:=by simpa using Ne.symm i
  rw[this];show List.lookup y [(y,d)]=some d;rw[List.lookup_cons];simp
 have ndc:([(x,c),(y,d)].map (·.1)).Nodup:=by simp[i]
 refine⟨TB,hT,tq,code,qual,hcl,hdf,⟨fn,ndc,λz c' h=>?_⟩,⟨C,co,gen,nd,by rw[B,List.take_left],par,o,λz hz=>?_,λz hz=>?_,ndc,λz w c' h1 G=>?_⟩,by rw[f];simp[F,u],λz c' h=>?_⟩
 ·rcases lk z c' h with ⟨rfl,rfl⟩ | ⟨rfl,rfl⟩
  ·exact⟨g,E⟩
  ·exact⟨e,s⟩
 ·rw[f] at hz
  simp only[Wo,List.not_mem_nil,or_false] at hz;rcases hz with rfl | rfl
  ·exact fre
  ·exact m
 ·rcases only _ (Xd hz) rfl with h | h
  ·rw[show z=x from h];exact⟨c,r⟩
  ·rw[show z=y from h];exact⟨d,p⟩
 ·rcases lk z c' h1 with ⟨a,b⟩ | ⟨a,b⟩<;>rcases lk w c' G with ⟨A,v⟩ | ⟨A,v⟩
  ·rw[a,A]
  ·exact Wz (b.symm.trans v) k
  ·exact Wz (v.symm.trans b) k
  ·rw[a,A]
 ·rw[f]
  rcases lk z c' h with ⟨rfl,_⟩ | ⟨rfl,_⟩<;>simp
end HW
namespace HW
open PySem
noncomputable def DQ(c:R->V3 Bool)(p:R->V3 Out):Nat->R->V3 Out
 | 0,_=>none
 | n+1,ρ=>(c ρ).bind λb=>if b then (p ρ).bind λr=>match r with
  | .nx ρ1=>DQ c p n ρ1
  | .ct ρ1=>DQ c p n ρ1
  | .bk ρ1=>some (.nx ρ1)
  | .rt d=>some (.rt d)
  else some (.nx ρ)
def A9(l:LD):OD:=Cw (λz x=>(lI z).bind λes=>if rZ x<=100/\qS x=true/\q_ es=true/\es.length<=1000 then (if es.findIdx (λy=>zB y x)<es.length then some (.int ((es.findIdx (λy=>zB y x):Nat):Int)) else none) else none) l
def Kh(x y:D):V3 Bool:=(sI x).bind λx=>(sI y).map λy=>decide (y.cps.toList<x.cps.toList)
def Dr(l:LD):OD:=v9 (λx=>(LI x).bind λa=>if a.length<=1000 then some (.lst (a.map .int)) else none) l
end HW
namespace HW
open PySem PySem.Spec PyProof.Rows L2
section
variable{X:Cx}{pos:Pos}
def lR(n:Nat)(F:PassesOwn (model X.prog X.w) X.A X.env X.xe)(G:ST X c s)(I:SS X B u):S1 X (.While c B [] pos) (DQ s u n):=(fJ F G I).imp λE O H p=>by
 obtain⟨ρ,l,o,J,e,q⟩:=p;refine⟨λm i v=>∃ ρ',r_ X.K v ρ' l i/\g6 H v/\DQ s u m ρ'=some o,⟨n,ρ,J,g6.refl _,e⟩,?_⟩;rintro m i v ⟨ρ',j,y,a⟩;cases m with
 | zero=>cases a
 | succ m =>
  obtain⟨b,M,a⟩:=d7 a;refine⟨ρ',b,j.1,M,λN s1=>?_⟩;cases b with
  | false =>
   rw[Wu We] at a ⊢;cases a;exact q N (y.trans s1) i (j.mono s1)
  | true =>
   rw[Wc rfl] at a ⊢;obtain⟨x,L,a⟩:=d7 a;refine⟨λk t=>∃ ρ',r_ X.K t ρ' l k/\g6 H t/\DQ s u m ρ'=some o,λk t z=>⟨m,Xp _,z⟩,ρ',l,x,j.mono s1,L,λr C=>?_⟩;have g:g6 H r:=y.trans (s1.trans C);cases x with
   | nx ρ2=>exact λh f=>⟨ρ2,f,g,a⟩
   | ct ρ2=>exact λh f=>⟨ρ2,f,g,a⟩
   | bk ρ2=>cases a;exact λh f=>q r g h f
   | rt d=>cases a;exact q r g
def KD:∀{xs:List PyData} {a:List V5} {as:List V_},PyData.canLayAll0 xs=true->ReadsAll h a xs as->∀{j:Nat} {v:V5},a[j]?=some v->∃x,xs[j]?=some x/\SeqAt.readOf h v=x:=λ{xs a as} hc r {j v} e=>by
 have z:=SeqAt.readsAll_map xs a as hc r;have:(a.map (SeqAt.readOf h))[j]?=some (SeqAt.readOf h v):=by rw[Wg,e];rfl
 rw[z] at this;exact⟨_,this,rfl⟩
theorem yT:∀ds:LD,tm ds=ds.map toPy
 | []=>rfl
 | d::ds=>by rw[tm,yT ds,Ww]
def mX(h:rW es=true){j:Nat}(e:es[j]?=some d):uF d=true:=by
 induction es generalizing j with
 | nil=>cases e
 | cons x es ih =>
  have h':(uF x&&rW es)=true:=h;rw[Wj] at h';cases j with
  | zero=>cases e;exact h'.1
  | succ j=>exact ih h'.2 e
def Ie(e:A9 (x::l)=some r):∃a y,x=.lst a/\l=[y]:=by
 obtain⟨x,y,h,e⟩:=Ac e;cases h;obtain⟨a,b,e⟩:=d7 e;exact⟨a,_,DK b,rfl⟩
def nn{k:Nat}(U:rJ k X.A):TL X "list.index" A9:=by
 intro E s Z H x vs v us Q I M N h;obtain⟨dx,ds,d,r1,t,e,q⟩:=h;obtain⟨es,y,rfl,rfl⟩:=Ie e;have m:(if rZ y<=100/\qS y=true/\q_ es=true/\es.length<=1000 then (if es.findIdx (λz=>zB z y)<es.length then some (D.int ((es.findIdx (λz=>zB z y):Nat):Int)) else none) else none)=some d:=e;split at m
 case isFalse=>cases m
 case isTrue hd =>
 split at m
 case isFalse=>cases m
 case isTrue g =>
 cases m;obtain⟨a,xs,rfl,Y,O⟩:=r1;cases (show v=_ from M);obtain⟨u,S,rfl,k1,t⟩:=t;cases (show S=[] from t);obtain⟨K,rfl,L⟩:=N.one;obtain⟨_,b,n,o,hl,J⟩:=I.lstM Y;obtain⟨as,P⟩:=vz I (av hd.2.1) k1 L;have C:qS (.lst es)=true:=hd.2.2.1;have i:rW es=true:=av C;obtain⟨bs,r⟩:=vo I i O o;have hcl:=dh es hd.2.2.1
 have l:b.length=es.length:=by
  have z:=congrArg List.length (SeqAt.readsAll_map _ _ _ hcl r);rw[V9,yT,V9] at z;exact z
 have c:∀(j:Nat) (g:j<b.length) (f:j<es.length),PyData.eqv (SeqAt.readOf s.heap b[j]) (toPy y)=zB es[j] y:=λj g f=>by
  obtain⟨p,G,W⟩:=KD hcl r (j:=j) (v:=b[j]) (List.getElem?_eq_getElem g);rw[yT,Wg,List.getElem?_eq_getElem f] at G;rw[W,<- Wq G,Dv _ _ (mX i (List.getElem?_eq_getElem f)) (av hd.2.1)]
 have T:X.A.units+1+min (PyData.depthAll (tm es)) (toPy y).depth<cLine:=by
  have h1:=U.un;have h2:min (PyData.depthAll (tm es)) (toPy y).depth<=100:=by rw[jd y (av hd.2.1)];omega
  omega
 refine call_meets PySem.F.slot_list_index ⟨_,J,rfl⟩ PySem.F.entry_list_index (PySem.F.args_list_index_2 _ _)
  (PySem.SeqAt.list_indexAt a b.toArray n none _ K (λz=>PyData.eqv (SeqAt.readOf s.heap z) (toPy y)) (es.findIdx λz=>zB z y) (by simpa [l] using g) (by omega) ?_ ?_) ⟨J,SeqAt.items_eqAt r P hcl (dJ y hd.2.1) T,?_⟩
 ·show PyData.eqv (SeqAt.readOf s.heap b[es.findIdx λz=>zB z y]) (toPy y)=true
  rw[c _ (by omega) g];exact List.findIdx_getElem (w:=g)
 ·intro j hjs B
  show PyData.eqv (SeqAt.readOf s.heap b[j]) (toPy y)=false;rw[c j (by simpa using hjs) (by omega)];exact Bool.eq_false_iff.mpr (by simpa using List.not_of_lt_findIdx B)
 ·exact⟨.int _,H,I.tok _,⟨_,rfl⟩,q _ H (g6.refl H) rfl⟩
def LF(h:A9 (x::ds)=some d):∃es,x=.lst es:=by
 obtain⟨a,_,h,_⟩:=Ie h;exact⟨a,h⟩
def nM{k:Nat}(t:rJ k X.A)(m:SE X a f)(n:SA X (e::es) F)
  (g:attributeBase a "index" X.env (eval a X.env)=eval a X.env:=by rfl)
  (h:((backTo j (starEach (e::es) X.env)).all (λx=>!x.1)&&(backToKw j (keywordEach [] X.env)).all (λx=>x.1.isSome)&&decide ((e::es).length+([]:List Keyword).length+(if ([]:List Keyword).isEmpty then 0 else 1)<30))=true:=by rfl)
  (c:(p.endLine==j.line)=true:=by rfl):SE X (.Call (.Attribute a "index" p) (e::es) [] j) (d3 A9 (b8 f F)):=by
 have b:=n.2.2;rw[W9,Wj] at b;refine(jC (T:="list") PySem.F.plainAttrs_list PySem.F.slot_list_index PySem.F.type_list_index (nn t) m n.1 g h c (ad es X.env b.1) (aM (pos:=j) (env:=X.env) b.2)).imp λB H Q l=>?_
 obtain⟨ρ,d,o,e,q⟩:=l;obtain⟨dd,i,e⟩:=d7 e;obtain⟨x,y,i⟩:=d7 i;obtain⟨ds,w,i⟩:=q8 i;subst i;obtain⟨es,rfl⟩:=LF e;exact⟨ρ,_,o,y,λv I s1 r1=>⟨by obtain⟨a,xs,rfl,m,E⟩:=r1;exact .inl ⟨rfl,xs,.inl (.inl m)⟩,ρ,ds,o.mono s1,w,λC G s2 s=>⟨.lst es,ds,d,r1.mono s2,s,e,λu z s3 r=>q u z (s1.trans (s2.trans s3)) r⟩⟩⟩
def Qj(e:Kh x y=some r):∃a b,x=.str a/\y=.str b:=by
 obtain⟨a,d,e⟩:=d7 e;obtain⟨b,c,_⟩:=q8 e;exact⟨a,b,J3 d,J3 c⟩
def pX:Fo X .Gt Kh:=by
 intro a s g H x y v u Q I d c h;obtain⟨k,dy,b,r1,f,e,q⟩:=h;obtain⟨i,j,rfl,rfl⟩:=Qj e;cases e;cases (show x=_ from r1);cases (show y=_ from f);obtain⟨t,rfl⟩:=d;obtain⟨t',rfl⟩:=c;exact PySem.P.gt_str ⟨.bl _,H,I,rfl,q⟩
def LT(e:Dr l=some r):∃a b,l=[.dct a b]:=by
 obtain⟨x,rfl,e⟩:=tX e;obtain⟨a,e,_⟩:=d7 e;obtain⟨_,_,rfl⟩:=HG e;exact⟨_,_,rfl⟩
def mv{p pos:Pos}(hc:X.calm=true)(hm:X.mg "list" = none)(he:SE X e f)(hg:Gl X "list":=by rfl)(A:noStar e=true:=by rfl) :
  SE X (.Call (.Name "list" p) [e] [] pos) (d3 Dr (b8 f d4)):=by
 intro r s σ H Q I h;obtain⟨ρ,d,er,eq,q⟩:=h;obtain⟨ds,U,F⟩:=d7 eq;have w:=ad [] X.env A;have Y:=(aj he aD A).1 pos r s σ H (λJ Z=>g6 H Z/\g7 X.K Z ds J) I ⟨ρ,ds,er,U,λJ Z s2 r2=>⟨s2,r2⟩⟩;refine Call_ (aE I hg hm boot_list ?_);refine PyProof.Rows.callWith_type1 (rg Y λus s1 h=>?_) w rfl;obtain⟨J,H1,G,r1,L,rp⟩:=h;obtain⟨ks,dd,rfl⟩:=LT F;obtain⟨m,E,C⟩:=d7 (show(xR ks).bind _=some d from F);split at C
 case isFalse=>cases C
 case isTrue hn =>
 cases C;obtain⟨v,r',rfl,⟨a,xs,rfl,⟨hl,o,hq⟩,rx⟩,rr⟩:=rp;cases (show r'=[] from rr);obtain⟨u,rfl,ru⟩:=r1.one;cases (show u=_ from ru);obtain⟨lo,ws,es,ep,rk,g,hd,O⟩:=E6 G.hok hq
 have hk:ws.map (·.1)=m.map Sum.inl:=by
  rw[<- Df rk,<- AH E,List.map_fst_zip];omega
 have B:ws.length=m.length:=by have:=congrArg List.length hk;rw[V9,V9] at this;exact this
 refine W.kdl_call (W.kdl_dict lo) (G.ok.hd hc) O (by rw[B,sizeLine_eq];omega) λh' tk l c' M S c=>?_
 have P:l.toList.length=m.length:=by rw[WL,c.1,B]
 have hI:IntsAre l.toList m:=gp P λj v n h1 h2=>by
  obtain⟨k,x,U,F⟩:=c.2 j v (by rw[<- Array.getElem?_toList];exact h1);have E:(ws.map (·.1))[j]?=some k:=by rw[Wg,U];rfl
  rw[hk,Wg,h2] at E;have C:Sum.inl n=k:=Wq E;subst C;rcases ri (show zu (Sum.inl n) v=true from F) with ⟨i,t,T,rfl⟩ | ⟨y,t,T,_⟩
  ·cases T;exact⟨t,rfl⟩
  ·cases T
 have hf:H1 s1.heap.objs.size=none:=G.hok.fresh (Wl _);obtain⟨v1,v2⟩:=bf (K:=X.K) (H:=upd H1 s1.heap.objs.size (.lst (m.map V.int))) hI;refine⟨.ref s1.heap.objs.size,upd H1 s1.heap.objs.size (.lst (m.map V.int)),G.laid (t':=tk) M (Wl _) ⟨by rw[V9,sizeLine_eq];omega,l.toList,c',v1,by rw[S]⟩,rfl,?_⟩;refine q _ _ (L.trans λb u N=>?_) ⟨_,_,rfl,aa,v2⟩;rw[ac λz=>by rw[z,hf] at N;cases N];exact N
end
def TabsAt(a:List rf)(H:Hp):Prop:=∀t∈a,H t.P=some (.tbl t.q false)
def DF(K:Wb)(F:LD->OD)(b:List rf):Sp:=λa H Q E=>TabsAt b H/\NT K F a H Q E
def rL.one(h:rL mg a base)(c:t∈a):rL mg [t] base:=⟨λu b=>by rw[Wh.mp b];exact h.code t c,h.bm⟩
structure O6 (P:Wr) (w:WC) (K:Wb) (mg:Str->V3 V5) (base:WK) (k:Nat) (x:Str) (ps:List Str) (F:LD->OD) (ts:List rf):Prop where
 ex:∃f fd,rM P w K mg base vq k f fd ps (DF K F ts)/\mg x=some (.ref f)/\W.keepIn K (.ref f)=true/\Binds K fd ps []
def rM.tabs{K:Wb}{k:Nat}(b:t∈a)(h:rM P w K mg base vq k f fd ps (spT K F t)):rM P w K mg base vq k f fd ps (DF K F a):=h.imp λc H Q E z=>⟨z.1 t b,z.2⟩
def lu{P:Wr}{w:WC}{K:Wb}{mg:Str->V3 V5}{base:WK}{x qual:Str}{st:Xi}{f:V_}{fd:W_}{N ps:List Str}{k:Nat}{F:LD->OD}{g:R->V3 Out}{i:List rf}
  (y:Hh K x qual st f fd) (S:sL N ps (g9 st)) (b:∀ds d,F ds=some d->ds.length=ps.length)
  (p:∀(a:V5) (A:WM) (outer:List Env) (s:V7) (H:Hp) (E:XK),rJ k (A.deeper (envOfC qual (g9 st) s.heap.objs.size f a))->TabsAt i H->SS (wY vq P w K mg base N qual (g9 st) f a A outer s H E).nox (qW st) g)
  (u:∀ds d,F ds=some d->rm (g (AM N.length ds))=some d):rM P w K mg base vq (k+1) f fd ps (DF K F i):=by
 refine y.ok S (λl H Q E h=>?_) (λa A outer s H l Q E n h=>?_)
 ·obtain⟨_,ds,d,r,e,_⟩:=h
  rw[<- r.length];exact b ds d e
 ·obtain⟨hT,ds,d,r,e,q⟩:=h
  refine⟨_,p a A outer s H E n hT,?_⟩;have z:=u ds d e;cases c:g (AM N.length ds) with
  | none=>rw[c] at z;cases z
  | some o =>
   rw[c] at z;refine⟨AM N.length ds,_,o,(zX r).t,c,λj s1=>?_⟩;cases o with
   | rt d'=>cases (show d'=d from Wq z);exact λv m=>q v j s1 m
   | nx ρ=>cases (show D.non=d from Wq z);exact λB _=>q .non j s1 rfl
   | bk ρ=>cases z
   | ct ρ=>cases z
section
variable{X:Cx}{p pos:Pos}{e:WG}{es:List WG}{F:R->V3 LD}{ts:List rf}
def j4{k:Nat}(C:O6 X.prog X.w X.K X.mg X.base k x ps G ts)(y:rJ k X.A)(hT:TabsAt ts X.H₀)(r:SA X (e::es) F)(z:Gl X x:=by rfl)
  (n:(x==("__debug__" : Str))=false:=by decide):SE X (.Call (.Name x p) (e::es) [] pos) (d3 G F):=by
 have b:=r.2.2;rw[W9,Wj] at b;have B:=ad es X.env b.1;have l:=aM (pos:=pos) (env:=X.env) b.2;obtain⟨f,fd,a,m,kp,bd⟩:=C.ex;intro c s g H Q I h;have o:TabsAt ts H:=λt j=>I.base.tbls _ _ _ (hT t j)
 refine((eN a y z m kp bd .nil AB r.1 n B l).imp (t':=λg H Q=>TabsAt ts H/\tD X.K (d3 G F) g H Q) λg H Q i=>?_) c s g H Q I ⟨o,h⟩;obtain⟨o,ρ,d,E,e,q⟩:=i;obtain⟨ds,J,e⟩:=d7 e;exact⟨ρ,ds,E,J,λM N s1 r1=>⟨λt j=>s1 _ _ (o t j),ds,d,by rw[WT];exact r1,e,λv L s2 u=>q v L (s1.trans s2) u⟩⟩
end
def J1(K:Wb)(F:LD->OD)(a:List rf):Sp:=λb H Q E=>(a.map (·.P)).Nodup->DF K F a b H Q E
def Nv(nd:(a.map (·.P)).Nodup)(b:t∈a):BW a t.P=some (.tbl t.q false):=by
 induction a with
 | nil=>cases b
 | cons u a ih =>
  rw[Ww,List.nodup_cons] at nd;unfold BW;rw[List.find?_cons];rcases Wo.mp b with rfl | b
  ·simp
  ·have c:(u.P==t.P)=false:=WQ.mpr λz=>nd.1 (z ▸ List.mem_map.mpr ⟨t,b,rfl⟩)
   rw[c];exact ih nd.2 b
def Oh{K:Wb}(hO:HZ b a H)(e:∀t∈b,t.P≠a)(h:NT K F c H Q E):J1 K F b c H Q E:=λnd=>by
 refine⟨λt d=>?_,h⟩;rcases hO t.P with ⟨_,z⟩ | ⟨z,_⟩
 ·rw[z];exact Nv nd d
 ·exact Wz z (e t d)
def Oy{K:Wb}{k:Nat}(nd:(a.map (·.P)).Nodup)(h:rM P w K mg base vq k f fd ps (DF K F a)):rM P w K mg base vq k f fd ps (J1 K F a):=h.imp λb H Q E z=>z nd
section
variable{X:Cx}{pins:List (V_×Obj)}{σ:L2.St}{H:Hp}{s:V7}{A:WM}{E:V5->V7->Prop}
end
def BF {a b c:Int} {n:Nat} {R:List V5->V7->Prop} (I:A.handled=none) (G:IsRange s.heap r a b c t u v) (k:Builtin.Range.small a b c=true) (H:Builtin.Range.rangeSize a b c=n) (p:n<=2 ^ 24)
    (h:∀(h':WK) (tk:Nat) (d:Array V5),(∀b o,s.heap.get? b=some o->h'.get? b=some o)->s.heap.objs.size<=h'.objs.size->ItemsOf (λi v=>∃t,v=.int (a+i*c) t) d n->R d.toList {s with heap:=h',toks:=tk}) :
    wpAny (model prog w) A (collect (.ref r)) R E s:=by
  unfold collect;refine V4 (wpAny_runValue (WR entry_proto_collect' ?_));rw[Around.under_plainId PySem.F.plain_proto_collect _];show wpAny _ A.in1 (newList [] >>= λl=>again (.builtin "list.__iadd__" ⟨[l,.ref r],[]⟩)) _ _ s;refine V4 (WO ?_);refine V8 ⟨plainId_quiet PySem.F.plain_list_iadd _,WR entry_list_iadd' ?_⟩;rw[Around.under_plainId PySem.F.plain_list_iadd _];have J:(s.heap.push {cls:=.type "list",data:=.seq ([]:List V5).toArray}).get? s.heap.objs.size=some {cls:=.type "list",data:=.seq #[]}:=Wf _ rfl;show wpAny _ A.in1 (Builtin.List.listExtendWith (.ref s.heap.objs.size) (.ref r) (.ref s.heap.objs.size)) _ _ _
  have key:=wpAny_extend_range (prog:=prog) (w:=w) (A:=A) (s:={s with heap:=s.heap.push {cls:=.type "list",data:=.seq ([]:List V5).toArray} })
    (R:=λ(q:Result) (B:V7)=>∃(h':WK) (tk:Nat) (d:Array V5) (m:Nat),q=.ok (.ret (.ref s.heap.objs.size))/\B={s with heap:=h',toks:=tk} /\
      (∀b o,s.heap.get? b=some o->h'.get? b=some o)/\h'.get? s.heap.objs.size=some {cls:=.type "list",dict:=none,data:=.seq d m,slots:=#[]}/\ItemsOf (λi v=>∃t,v=.int (a+i*c) t) d n)
    I (V6 _ G) k H p s.heap.objs.size (.ref s.heap.objs.size) 0 J
    (λh' tk d c z j g=>⟨h',tk,d,c,rfl,rfl,λb o e=>z b o (WA (Wp e)) (V6 _ e),j,g⟩)
  refine Xj key (λfin B x=>?_) λe B x=>?_
  · cases fin with
    | done f =>
      obtain⟨h',tk,d,c,e,rfl,z,j,g⟩:=x;cases e;show wpAny _ A (load s.heap.objs.size >>= _) _ _ _;exact V4 (wpAny_load j (V8 (h h' tk d z (Nat.le_of_lt (Wp j)) g)))
    | again m =>
      refine⟨x.1,codeAny_mono x.2 λq C y=>?_⟩;obtain⟨h',tk,d,c,rfl,rfl,z,j,g⟩:=y;show wpAny _ A (load s.heap.objs.size >>= _) _ _ _;exact V4 (wpAny_load j (V8 (h h' tk d z (Nat.le_of_lt (Wp j)) g)))
  · obtain⟨_,_,_,_,K,_⟩:=x
    cases K
section
variable{X:Cx}{pins:List (V_×Obj)}{σ:L2.St}{H:Hp}{s:V7}{E:V5->V7->Prop}
end
section
variable{X:Cx}{pins:List (V_×Obj)}{σ:L2.St}{H:Hp}{s:V7}
end
end HW
namespace HW
open PySem
end HW
namespace HW
open PySem PySem.Spec PyProof.Rows L2
section
variable{X:Cx}{pins:List (V_×Obj)}{σ:L2.St}{H:Hp}{s:V7}{t:uu}{cl:List (Str×V_)}{ct:rf}{js:List Nat}{k:Nat}{G:LD->OD}
end
section
variable{X:Cx}{t:uu}{cl:List (Str×V_)}{ct:rf}{js:List Nat}{k:Nat}{G:LD->OD}
end
section
variable{X:Cx}{ts:List rf}
end
end HW
namespace HW
open PySem
end HW
namespace HW
open PySem PySem.Spec PyProof.Rows L2
section
variable{X:Cx}{ts:List rf}
end
end HW
namespace HW
open PySem
def RB(f:R->OD):R->OD:=λρ=>(f ρ).bind λy=>(nI y).bind λj=>if -(2 ^ 60)<=j/\j<2 ^ 60/\sr 0 j 1<=1000 then some (.tup (vB 0 j 1)) else none
end HW
namespace HW
open PySem PySem.Spec PyProof.Rows L2
open AutoSeq1 (wpAny_loadPart')
def x5(r:V_) (a b c:Int) (t u v:Tok) (n:Nat) (f:Builtin.Range.small a b c=true) (x:Builtin.Range.rangeSize a b c=n) (g:n<=1000) :
    Meets (Builtin.«tuple.__new__» ⟨[.type "tuple",.ref r],[]⟩)
      (λA R s=>A.handled=none/\IsRange s.heap r a b c t u v/\∀(h':WK) (tk:Nat) (d:Array V5),(∀b o,s.heap.get? b=some o->h'.get? b=some o)->s.heap.objs.size<=h'.objs.size->ItemsOf (λi v=>∃t,v=.int (a+i*c) t) d n ->
        R (.ok (.ret (.ref h'.objs.size))) {s with heap:=h'.push {cls:=.type "tuple",data:=.seq d},toks:=tk}):=
  .of_wp λprog w A R s h=>by
    obtain⟨B,p,h⟩:=h;have m:=sub_tuple_self;have k:=init_tuple_lookup;have y:=madeHere_tuple;have hT:s.TypeIs (.ref r) "range":=⟨_,p,rfl⟩
    have l:A.in1.handled=none:=B
    wp_walk using wpAny_typeOf hT,BF l p f x (WD g (by decide))
    intro h' tk d z q j;show wpAny _ _ (Builtin.Tuple.tupleExact d.toList.toArray >>= λv=>ret v) _ _ _;unfold Builtin.Tuple.tupleExact;refine V4 (WO ?_ (show d.toList.toArray.size<=sizeLine by simp only[Array.toArray_toList];rw[j.1];exact WD g (by decide)));refine V8 ⟨_,rfl,?_⟩;have e:d.toList.toArray=d:=by simp
    rw[e];exact h h' tk d z q j
def dM{a b c:Int}{n:Nat}(p:A.handled=none)(k:IsRange s.heap r a b c t u v)(d:Builtin.Range.small a b c=true)(l:Builtin.Range.rangeSize a b c=n)(f:n<=1000)
  (h:∀(h':WK) (tk:Nat) (e:Array V5),(∀b o,s.heap.get? b=some o->h'.get? b=some o)->s.heap.objs.size<=h'.objs.size->ItemsOf (λi v=>∃t,v=.int (a+i*c) t) e n->Q (.ref h'.objs.size) {s with heap:=h'.push {cls:=.type "tuple",data:=.seq e},toks:=tk}) :
  wpAny (model prog w) A (call (.type "tuple") [.ref r]) Q E s:=
 callType_new F.called_tuple (by decide) (F.typeCall_tuple_1 _) (F.newCall_tuple_1 _) (λobj=>F.args_object_init_2 obj _) F.entry_tuple_new
  (x5 r a b c t u v n d l f) ⟨p,k,λh' tk e m j g=>⟨⟨_,Wf _ rfl,rfl⟩,h h' tk e m j g⟩⟩
section
variable{X:Cx}
def qo(G:X.calm=true)(E:X.mg "tuple" = none)(C:X.mg "range" = none)(i:SE X b g)(hg:Gl X "tuple":=by rfl)(F:Gl X "range":=by rfl)(h:noStar b=true:=by rfl) :
  SE X (.Call (.Name "tuple" p) [.Call (.Name "range" p') [b] [] pos'] [] pos) (RB g):=by
 have W:=ad [] X.env h;intro f s U H Q I c;obtain⟨ρ,d,er,e,q⟩:=c;obtain⟨y,e2,e⟩:=d7 e;obtain⟨j,e5,e⟩:=d7 e;split at e
 case isFalse=>cases e
 case isTrue hz =>
 cases e;refine Call_ (aE I hg E boot_tuple ?_);refine PyProof.Rows.callWith_type1 (Calls.spliced_cons ?_) rfl rfl;refine Call_ (aE I F C boot_range ?_);refine PyProof.Rows.callWith_type1 (rg ((aj i aD h).1 pos' f s U H (λl M=>g6 H M/\g7 X.K M [y] l) I ⟨ρ,[y],er,by show((g ρ).bind _)=_;rw[e2];rfl,λl M s2 r2=>⟨s2,r2⟩⟩) λus s1 c=>?_) (by rw[W]) rfl;obtain⟨l,N,L,r1,w,rp⟩:=c;obtain⟨u,r',rfl,r4,r5⟩:=rp;cases (show r'=_ from r5);have hu:=tM e5 r4;subst hu;obtain⟨q3,q4,O⟩:=hz;cases r1 with
 | cons r rr =>
  cases rr;obtain⟨t',rfl⟩:=r;refine call_range_1 ?_;refine Calls.spliced_nil ?_;have S:(vB 0 j 1).length=sr 0 j 1:=by simp[vB]
  generalize x:({cls:=.type "range",data:=.fields #[.int 0 s1.toks,.int j t',.int 1 (s1.toks+1)]}:Obj)=ob;have hR:IsRange (s1.heap.push ob) s1.heap.objs.size 0 j 1 s1.toks t' (s1.toks+1):=by subst x;exact IsRange.new ..
  refine dM (s:={s1 with heap:=s1.heap.push ob,toks:=s1.toks+1+1}) (n:=sr 0 j 1) (L.ok.hd G) hR (Kd (by decide) (by decide) q3 q4 (by decide) (by decide)) (CK (by decide)).symm O λh' tk k hk J a=>?_
  have T:s1.heap.objs.size<=h'.objs.size:=WD (by rw[Heap.size_push];exact Nat.le_succ _) J
  have hI:IntsAre k.toList ((List.range (sr 0 j 1)).map λ(m:Nat)=>0+(m:Int)*1):=by
   refine gF _ _ (by rw[WL,V9,List.length_range];exact a.1) λm v P=>?_
   have E:m<sr 0 j 1:=by
    have:=(Wm.mp P).1;rw[WL,a.1] at this;exact this
   obtain⟨t,e⟩:=a.2 m v (by rw[<- Array.getElem?_toList];exact P);refine⟨t,e.trans ?_⟩;simp[Wn,Wg,List.getElem?_range E]
  have B:vB 0 j 1=((List.range (sr 0 j 1)).map λ(m:Nat)=>0+(m:Int)*1).map D.int:=by
   unfold vB;rw[List.map_map];rfl
  rw[B] at q;generalize A:(List.range (sr 0 j 1)).map (λ(m:Nat)=>0+(m:Int)*1)=ns at *
  have hnl:ns.length<=1000:=by rw[<- A,V9,List.length_range];exact O
  have hf:N h'.objs.size=none:=L.hok.fresh T;obtain⟨Z,Y⟩:=bf (K:=X.K) (H:=upd N h'.objs.size (.tup (ns.map V.int))) hI;refine⟨.ref h'.objs.size,upd N h'.objs.size (.tup (ns.map V.int)),L.laid (t':=tk) (o:=.tup (ns.map V.int)) (λb o eb=>V6 _ (hk b o (V6 _ eb))) T ⟨?_,k.toList,Z,uf.new _ _⟩,rfl,?_⟩
  ·rw[V9,sizeLine_eq];omega
  ·refine q _ _ (w.trans λb u i=>?_) ⟨h'.objs.size,_,rfl,tS.of aa,Y⟩
   rw[ac λz=>by rw[z,hf] at i;cases i];exact i
end
end HW
namespace HW
open PySem
inductive rH | none | hour | minute | zero | ahour | aminute | alarm | run | lap | cminute | csecond | full | count
 deriving DecidableEq,Inhabited
inductive vv | a | b | c
 deriving DecidableEq,Inhabited
inductive Face | time | alarm | laps | count
 deriving DecidableEq,Inhabited
noncomputable def rH.x:rH->Str
 | .none=>oS "none" | .hour=>oS "hour" | .minute=>oS "minute" | .zero=>oS "zero" | .ahour=>oS "ahour" | .aminute=>oS "aminute" | .alarm=>oS "alarm"
 | .run=>oS "run" | .lap=>oS "lap" | .cminute=>oS "cminute" | .csecond=>oS "csecond" | .full=>oS "full" | .count=>oS "count"
def vv.x:vv->Str
 | .a=>oS "a" | .b=>oS "b" | .c=>oS "c"
def vv.X:vv->Str
 | .a=>oS "A" | .b=>oS "B" | .c=>oS "C"
def vv.ix:vv->Nat
 | .a=>0 | .b=>1 | .c=>2
def Face.x:Face->Str
 | .time=>oS "time" | .alarm=>oS "alarm" | .laps=>oS "laps" | .count=>oS "count"
structure Md where
 face:Face
 stays:Bool
 rows:List (rH×Nat)
 deriving Inhabited
structure Bk where
 hold:Int
 back:Int
 modes:List Md
structure WS where
 mode:Nat
 clock:Int
 ah:Int
 am:Int
 aon:Bool
 lm:Int
 lr:Bool
 lk:List Int
 cm:Int
 cs:Int
 cl:Int
 cr:Bool
 ring:Int
 held:V3 (vv×V3 Int)
 idle:Int
def q9(r:rH×Nat):D:=.tup [.str r.1.x,.int (r.2:Int)]
def Md.d(m:Md):D:=.tup [.str m.face.x,.bl m.stays,.tup (m.rows.map q9)]
def Bk.d(b:Bk):D:=.tup [.int b.hold,.int b.back,.tup (b.modes.map Md.d)]
noncomputable def rN:V3 Int->D
 | .none=>.non
 | .some k=>.int k
def B9:V3 (vv×V3 Int)->D
 | .none=>.non
 | .some (x,k)=>.tup [.str x.x,rN k]
def WS.alarmD(s:WS):D:=.tup [.int s.ah,.int s.am,.bl s.aon]
def WS.lapsD(s:WS):D:=.tup [.int s.lm,.bl s.lr,.tup (s.lk.map .int)]
def WS.countD(s:WS):D:=.tup [.int s.cm,.int s.cs,.int s.cl,.bl s.cr]
def WS.d(s:WS):D:=.tup [.int (s.mode:Int),.int s.clock,s.alarmD,s.lapsD,s.countD,.int s.ring,B9 s.held,.int s.idle]
structure Md.Ok (n:Nat) (m:Md):Prop where
 six:m.rows.length=6
 nx:∀r∈m.rows,r.2<n
structure Bk.Ok (b:Bk):Prop where
 hold1:1<=b.hold
 hold9:b.hold<=9
 back0:0<=b.back
 back60:b.back<=60
 some1:1<=b.modes.length
 some8:b.modes.length<=8
 all:∀m∈b.modes,m.Ok b.modes.length
structure WS.Wk (b:Bk) (s:WS):Prop where
 bk:0<=b.back
 mode:s.mode<b.modes.length
 clock0:0<=s.clock
 clock1:s.clock<86400
 ah0:0<=s.ah
 ah1:s.ah<24
 am0:0<=s.am
 am1:s.am<60
 lm0:0<=s.lm
 lk:s.lk.length<=4
 cm0:0<=s.cm
 cm1:s.cm<60
 cs0:0<=s.cs
 cs1:s.cs<60
 cl0:0<=s.cl
 cl1:s.cl<3600
 cr:s.cr=true->0<s.cl
 ring0:0<=s.ring
 ring1:s.ring<=10
 idle0:0<=s.idle
 idle1:0<b.back->s.idle<b.back
 idle2:b.back=0->s.idle=0
structure WS.Ok (b:Bk) (s:WS):Prop extends WS.Wk b s where
 held:∀x k,s.held=some (x,some k)->0<=k/\k<b.hold
noncomputable def ya(s:WS)(m c:Int):WS:=if s.cr then s else {s with cm:=m,cs:=c,cl:=60*m+c,cr:=false}
def deed:rH->WS->WS
 | .none,s=>s
 | .hour,s=>{s with clock:=(s.clock+3600)%86400}
 | .minute,s=>{s with clock:=s.clock - s.clock%3600+(s.clock%3600+60)%3600}
 | .zero,s=>{s with clock:=s.clock - s.clock%60}
 | .ahour,s=>{s with ah:=(s.ah+1)%24}
 | .aminute,s=>{s with am:=(s.am+1)%60}
 | .alarm,s=>{s with aon:=!s.aon}
 | .run,s=>{s with lr:=!s.lr}
 | .lap,s=>if s.lr then (if 4<=s.lk.length then s else {s with lk:=s.lk++[s.lm]}) else {s with lm:=0,lk:=[]}
 | .cminute,s=>ya s ((s.cm+1)%60) s.cs
 | .csecond,s=>ya s s.cm ((s.cs+1)%60)
 | .full,s=>ya s s.cm s.cs
 | .count,s=>{s with cr:=!s.cr&&decide (0<s.cl)}
def Bk.row(b:Bk)(m i:Nat):rH×Nat:=(b.modes.getD m default).rows.getD i (.none,0)
def press(b:Bk)(s:WS)(i:Nat):WS:={deed (b.row s.mode i).1 s with mode:=(b.row s.mode i).2}
noncomputable def mx(i j:Int):Int:=if j > i then j else i
def WS.sec(s:WS):Int:=3600*s.ah+60*s.am
def qT(s:WS):V3 Int:=if s.aon then some ((s.sec - s.clock - 1)%86400+1) else none
def qR(s:WS):V3 Int:=if s.cr then some s.cl else none
def vm(s:WS)(n:Int):V3 Int:=
 match qT s,qR s with
 | some a,some c=>if a<=n then (if c<=n then some (mx (n - (n - a)%86400) c) else some (n - (n - a)%86400)) else (if c<=n then some c else none)
 | some a,none=>if a<=n then some (n - (n - a)%86400) else none
 | none,some c=>if c<=n then some c else none
 | none,none=>none
def sY(s:WS)(n:Int):Int:=
 match vm s n with
 | none=>mx 0 (s.ring - n)
 | some l=>mx 0 (10 - (n - l))
def sD(h:V3 (vv×V3 Int))(n:Int):V3 (vv×V3 Int):=
 match h with
 | some (x,some k)=>some (x,some (k+n))
 | h=>h
def ro(b:Bk)(s:WS):Int:=mx 1 (b.back - s.idle)
def so(b:Bk)(s:WS)(n:Int):Int:=
 if s.held.isSome\/b.back=0 then s.idle else if n<ro b s then s.idle+n else (n - ro b s)%b.back
def sC(s:WS)(n:Int):Int:=if s.lr then s.lm+n else s.lm
def rD(s:WS)(n:Int):Int:=if s.cr then mx 0 (s.cl - n) else s.cl
def runsOn(s:WS)(n:Int):Bool:=s.cr&&decide (0<mx 0 (s.cl - n))
def counted(b:Bk)(s:WS)(n:Int):WS:=
 {s with clock:=(s.clock+n)%86400,lm:=sC s n,cl:=rD s n,cr:=runsOn s n,ring:=sY s n,held:=sD s.held n,idle:=so b s n}
def sE(b:Bk)(s:WS):Bool:=decide (0<b.back)&&(!decide (s.mode=0)&&!(b.modes.getD s.mode default).stays)
def n9(b:Bk)(s:WS):V3 Int:=
 match s.held with
 | none=>if sE b s then some (ro b s) else none
 | some (_,none)=>none
 | some (_,some k)=>some (mx 1 (b.hold - k))
def turned(b:Bk)(s:WS):WS:=
 match s.held with
 | none=>{s with mode:=0}
 | some (x,_)=>press b {s with held:=some (x,none)} (x.ix+3)
def behind(b:Bk)(s:WS)(t:Int):WS:=turned b (counted b s t)
def ticked(b:Bk)(s:WS)(n:Int):WS:=
 match n9 b s with
 | none=>counted b s n
 | some t=>if n<t then counted b s n else counted b (behind b s t) (n - t)
def pushed(s:WS)(x:vv):WS:=if s.held.isSome then s else {s with ring:=0,held:=some (x,if 0<s.ring then none else some 0),idle:=0}
def letGo(b:Bk)(s:WS)(x:vv):WS:=
 match s.held with
 | some (y,k)=>if y=x then { (if k.isSome then press b s x.ix else s) with held:=none,idle:=0} else s
 | none=>s
inductive Ev | down (x:vv) | up (x:vv) | ticks (n:Int)
 deriving DecidableEq
def Ev.d:Ev->D
 | .down x=>.tup [.str (oS "down"),.str x.x]
 | .up x=>.tup [.str (oS "up"),.str x.x]
 | .ticks n=>.tup [.str (oS "ticks"),.int n]
def gone(b:Bk)(s:WS):Ev->WS
 | .down x=>pushed s x
 | .up x=>letGo b s x
 | .ticks n=>ticked b s n
def Vo(i j:Int):i<=mx i j:=by unfold mx;split<;>omega
def Gk{m n:Int}(c:0<=m)(a:0<=n):rD (counted b s m) n=rD s (m+n):=by
 unfold rD counted runsOn rD mx;cases s.cr
 ·simp
 ·simp
  split<;>split<;>(try split)<;>omega
def u_(s:WS){n:Int}(a:0<=n):runsOn s n=(s.cr&&decide (n<s.cl)):=by
 unfold runsOn mx;congr 1;by_cases h:n<s.cl
 ·rw[Wc (by omega),WP h,WP (by omega)]
 ·rw[Wu (by omega),Wx h,Wx (by omega)]
def yX(s:WS){n:Int}(h:n<s.cl):rD s n=if s.cr then s.cl - n else s.cl:=by
 unfold rD;have e:mx 0 (s.cl - n)=s.cl - n:=by unfold mx;split<;>omega
 rw[e]
def Gf{m n:Int}(d:0<=m)(c:0<=n):runsOn (counted b s m) n=runsOn s (m+n):=by
 rw[u_ _ c,u_ _ (by omega)];show(runsOn s m&&decide (n<rD s m))=_;rw[u_ _ d];cases e:s.cr
 ·rfl
 ·by_cases h:m<s.cl
  ·rw[yX s h,Wc e]
   by_cases a:m+n<s.cl
   ·rw[WP h,WP a,WP (by omega)];rfl
   ·rw[WP h,Wx a,Wx (by omega)];rfl
  ·rw[Wx h,Wx (show ¬ m+n<s.cl by omega)]
   rfl
def zw(aon:Bool)(a:Int)(cr:Bool)(c r n:Int):Int:=
 if aon=true/\a<=n then (if cr=true/\c<=n then mx 0 (10 - (n - mx (n - (n - a)%86400) c)) else mx 0 (10 - (n - a)%86400)) else if cr=true/\c<=n then mx 0 (10 - (n - c)) else mx 0 (r - n)
def wN(s:WS)(n:Int):sY s n=zw s.aon ((s.sec - s.clock - 1)%86400+1) s.cr s.cl s.ring n:=by
 unfold sY vm qT qR zw;generalize (s.sec - s.clock - 1)%86400+1=a;have e:∀x:Int,n - (n - x)=x:=λx=>by omega
 cases s.aon<;>cases s.cr<;>by_cases h1:a<=n<;>by_cases b:s.cl<=n<;>simp[h1,b,e]
def p_{x y:Int}(h:∀k,x<=k↔y<=k):x=y:=Int.le_antisymm ((h y).2 (Int.le_refl y)) ((h x).1 (Int.le_refl x))
def EU{i j k:Int}:mx i j<=k↔i<=k/\j<=k:=by unfold mx;split<;>omega
def rA(b:Bool)(a n:Int):Int:=if b=true/\a<=n then 10 - (n - a)%86400 else 0
def rC(b:Bool)(c n:Int):Int:=if b=true/\c<=n then 10 - (n - c) else 0
def A7{a c r n k:Int}(h:r<=10)(i:1<=a)(d:q=true->1<=c):zw p a q c r n<=k↔0<=k/\r - n<=k/\rA p a n<=k/\rC q c n<=k:=by
 unfold zw rA rC;by_cases h1:p=true/\a<=n<;>by_cases b:q=true/\c<=n
 ·have g:=h1.2
  have f:=d b.1;have e:∀z,10 - (n - z)<=k↔z<=k+n - 10:=λz=>by omega
  rw[Wc h1,Wc b,Wc h1,Wc b,EU,e,EU];omega
 ·have g:=h1.2
  rw[Wc h1,Wu b,Wc h1,Wu b,EU];omega
 ·have f:=d b.1
  rw[Wu h1,Wc b,Wu h1,Wc b,EU];omega
 ·rw[Wu h1,Wu b,Wu h1,Wu b,EU];omega
def R5(b:Bool)(a n:Int):rA b a n<=10:=by unfold rA;split<;>omega
def P9{q m n k:Int}(c:0<=m)(a:0<=n)(d:0<=k):rA b (q%86400+1) (m+n)<=k↔rA b ((q - m)%86400+1) n<=k/\rA b (q%86400+1) m<=k+n:=by
 cases b
 ·simp[rA];omega
 ·simp only[rA,true_and]
  split<;>split<;>split<;>omega
def Qo{c m n k:Int}(e:0<=m)(d:0<=n)(f:0<=k)(x:Int)(a:b=true->m<c->x=c - m):rC b c (m+n)<=k↔rC (b&&decide (m<c)) x n<=k/\rC b c m<=k+n:=by
 cases b
 ·simp[rC];omega
 ·by_cases h:m<c
  ·rw[a rfl h,WP h]
   simp only[rC,true_and,Bool.and_true];split<;>split<;>split<;>omega
  ·rw[Wx h]
   simp only[rC,true_and,Bool.and_false,Bool.false_eq_true,false_and,if_false];split<;>split<;>omega
def Gg{m n:Int}(w:s.Wk b)(f:0<=m)(j:0<=n):sY (counted b s m) n=sY s (m+n):=by
 have a:=w.cr;rw[wN,wN];show zw s.aon ((s.sec - (s.clock+m)%86400 - 1)%86400+1) (runsOn s m) (rD s m) (sY s m) n=_;have p:(s.sec - (s.clock+m)%86400 - 1)%86400=(s.sec - s.clock - 1 - m)%86400:=by omega
 have i:s.cr=true->m<s.cl->rD s m=s.cl - m:=λh o=>by rw[yX s o,Wc h]
 have d:∀z:Int,1<=z%86400+1:=λz=>by omega
 have g:(s.cr&&decide (m<s.cl))=true->1<=rD s m:=λh=>by
  simp only[Wj,decide_eq_true_eq] at h;rw[i h.1 h.2];omega
 have R:∀k,sY s m<=k↔0<=k/\s.ring - m<=k/\rA s.aon ((s.sec - s.clock - 1)%86400+1) m<=k/\rC s.cr s.cl m<=k:=λk=>by
  rw[wN];exact A7 w.ring1 (d _) a
 have c:sY s m<=10:=(R 10).2 ⟨by decide,by have:=w.ring1;omega,R5 ..,by unfold rC;split<;>omega⟩;rw[p,u_ s f];refine p_ λk=>?_
 rw[A7 c (d _) g,A7 w.ring1 (d _) a];have e:sY s m - n<=k↔sY s m<=k+n:=by omega
 rw[e,R];refine and_congr_right λl=>?_
 rw[P9 f j l,Qo f j l _ i];omega
def Iz(h:s.idle<b.back):ro b s=b.back - s.idle:=by unfold ro mx;split<;>omega
def DS(x b:Int):(x - b)%b=x%b:=Int.sub_emod_right x b
def wQ{n:Int}(w:s.Wk b)(d:0<=n):so b s n=if s.held.isSome=true\/b.back=0 then s.idle else (s.idle+n)%b.back:=by
 unfold so;have h0:=w.idle0;by_cases h:s.held.isSome=true\/b.back=0
 ·rw[Wc h,Wc h]
 ·have c:0<b.back:=by
   have:¬ b.back=0:=λz=>h (.inr z)
   have:=w.bk;omega
  have h1:=w.idle1 c;rw[Wu h,Wu h,Iz h1];by_cases a:n<b.back - s.idle
  ·rw[Wc a,Int.emod_eq_of_lt (by omega) (by omega)]
  ·rw[Wu a,show n - (b.back - s.idle)=s.idle+n - b.back by omega,DS]
def E_(h:V3 (vv×V3 Int))(n:Int):(sD h n).isSome=h.isSome:=by
 unfold sD;split<;>rfl
def Gw(h:V3 (vv×V3 Int))(m n:Int):sD (sD h m) n=sD h (m+n):=by
 rcases h with _ | ⟨x,_ | k⟩
 ·rfl
 ·rfl
 ·simp[sD];omega
def xp(a:Int){b:Int}(h:0<b):a%b<b:=WW a h
def yG(a:Int){b:Int}(h:0<b):0<=a%b:=WZ a (by omega)
def NQ(aon:Bool)(a:Int)(cr:Bool)(c r n:Int)(b:r<=10)(d:0<=n)(e:cr=true->0<c)(f:1<=a):0<=zw aon a cr c r n/\zw aon a cr c r n<=10:=by
 unfold zw;split
 ·split
  ·unfold mx;split<;>(try split)<;>omega
  ·unfold mx;split<;>omega
 ·split
  ·unfold mx;split<;>omega
  ·unfold mx;split<;>omega
def WS.Wk.cnt{n:Int}(w:s.Wk b)(e:0<=n):(counted b s n).Wk b:=by
 have c:=NQ s.aon ((s.sec - s.clock - 1)%86400+1) s.cr s.cl s.ring n w.ring1 e w.cr (by omega);rw[<- wN] at c;have j:=w.lm0;have d:=wQ w e;have g:=w.cl0;have f:=w.cl1
 exact {
  bk:=w.bk,mode:=w.mode,clock0:=yG _ (by decide),clock1:=xp _ (by decide),ah0:=w.ah0,ah1:=w.ah1,am0:=w.am0,am1:=w.am1
  lm0:=by show 0<=sC s n;unfold sC;split<;>omega
  lk:=w.lk,cm0:=w.cm0,cm1:=w.cm1,cs0:=w.cs0,cs1:=w.cs1
  cl0:=by show 0<=rD s n;unfold rD mx;split<;>(try split)<;>omega
  cl1:=by show rD s n<3600;unfold rD mx;split<;>(try split)<;>omega
  cr:=by
   show runsOn s n=true->0<rD s n;intro h;unfold runsOn at h;unfold rD;cases i:s.cr
   ·rw[i] at h;cases h
   ·rw[i] at h;simp at h;simp;exact h
  ring0:=c.1,ring1:=c.2
  idle0:=by
   show 0<=so b s n;rw[d];split
   ·exact w.idle0
   ·rename_i h
    have:¬ b.back=0:=λz=>h (.inr z)
    exact WZ _ this
  idle1:=λa=>by
   show so b s n<b.back;rw[d];split
   ·exact w.idle1 a
   ·exact xp _ a
  idle2:=λa=>by
   show so b s n=0;rw[d,Wc (.inr a)];exact w.idle2 a}
def GM{m n:Int}(w:s.Wk b)(a:0<=m)(c:0<=n):so b (counted b s m) n=so b s (m+n):=by
 rw[wQ (w.cnt a) c,wQ w (by omega)];show(if (sD s.held m).isSome=true\/b.back=0 then so b s m else (so b s m+n)%b.back)=_;rw[E_,wQ w a];split
 ·rfl
 ·rw[Int.emod_add_emod,Int.add_assoc]
def Gs{m n:Int}:sC (counted b s m) n=sC s (m+n):=by
 unfold sC;show(if s.lr=true then sC s m+n else sC s m)=_;unfold sC;split<;>omega
def E2{m n:Int}(w:s.Wk b)(c:0<=m)(a:0<=n):counted b (counted b s m) n=counted b s (m+n):=by
 have j:=Gk (b:=b) (s:=s) c a;have i:=Gf (b:=b) (s:=s) c a;have h:=Gg w c a;have g:=GM w c a;have f:=Gs (b:=b) (s:=s) (m:=m) (n:=n);have e:=Gw s.held m n;have d:((s.clock+m)%86400+n)%86400=(s.clock+(m+n))%86400:=by omega
 show({counted b s m with clock:=((s.clock+m)%86400+n)%86400,lm:=sC (counted b s m) n,cl:=rD (counted b s m) n,cr:=runsOn (counted b s m) n,ring:=sY (counted b s m) n,held:=sD (sD s.held m) n,idle:=so b (counted b s m) n}:WS)=_;rw[j,i,h,g,f,e,d];rfl
def pV{b:Bk}(ok:b.Ok){m i:Nat}(c:m<b.modes.length)(d:i<6):(b.row m i).2<b.modes.length:=by
 unfold Bk.row;have e:b.modes.getD m default=b.modes[m]:=by simp[Wn,c]
 rw[e];have o:=ok.all _ (List.getElem_mem c);have a:i<b.modes[m].rows.length:=by rw[o.six];exact d
 have f:b.modes[m].rows.getD i (.none,0)=b.modes[m].rows[i]:=by simp[Wn,a]
 rw[f];exact o.nx _ (List.getElem_mem a)
def Ja(d:rH)(s:WS):(deed d s).held=s.held:=by
 cases d<;>simp[deed,ya]<;>(repeat' split)<;>rfl
def WS.Wk.set(w:s.Wk b){m c:Int}(m0:0<=m)(m1:m<60)(c0:0<=c)(c1:c<60):(ya s m c).Wk b:=by
 unfold ya;split
 ·exact w
 ·exact {w with cm0:=m0,cm1:=m1,cs0:=c0,cs1:=c1,cl0:=(by show 0<=60*m+c;omega),cl1:=(by show 60*m+c<3600;omega),cr:=λh=>by cases h}
def WS.Wk.dd(w:s.Wk b)(d:rH):(deed d s).Wk b:=by
 have c0:=w.clock0;have c1:=w.clock1;cases d with
 | none=>exact w
 | hour=>exact {w with clock0:=yG _ (by decide),clock1:=xp _ (by decide)}
 | minute=>exact {w with clock0:=(by show 0<=s.clock - s.clock%3600+(s.clock%3600+60)%3600;omega),clock1:=(by show s.clock - s.clock%3600+(s.clock%3600+60)%3600<86400;omega)}
 | zero=>exact {w with clock0:=(by show 0<=s.clock - s.clock%60;omega),clock1:=(by show s.clock - s.clock%60<86400;omega)}
 | ahour=>exact {w with ah0:=yG _ (by decide),ah1:=xp _ (by decide)}
 | aminute=>exact {w with am0:=yG _ (by decide),am1:=xp _ (by decide)}
 | alarm=>exact {w with}
 | run=>exact {w with}
 | lap =>
  show(if s.lr then (if 4<=s.lk.length then s else {s with lk:=s.lk++[s.lm]}) else {s with lm:=0,lk:=[]}:WS).Wk b;split
  ·split
   ·exact w
   ·exact {w with lk:=(by show(s.lk++[s.lm]).length<=4;simp;omega)}
  ·exact {w with lm0:=Int.le_refl 0,lk:=W4 _}
 | cminute=>exact w.set (yG _ (by decide)) (xp _ (by decide)) w.cs0 w.cs1
 | csecond=>exact w.set w.cm0 w.cm1 (yG _ (by decide)) (xp _ (by decide))
 | full=>exact w.set w.cm0 w.cm1 w.cs0 w.cs1
 | count =>
  have a:(!s.cr&&decide (0<s.cl))=true->0<s.cl:=λh=>by simp at h;exact h.2
  exact {w with cr:=a}
def WS.Wk.prs(ok:b.Ok)(w:s.Wk b){i:Nat}(a:i<6):(press b s i).Wk b:=by
 have z:=w.dd (b.row s.mode i).1;exact {z with mode:=pV ok w.mode a}
def AV(b:Bk)(s:WS)(i:Nat):(press b s i).held=s.held:=Ja _ _
def vv.ix3(x:vv):x.ix+3<6:=by cases x<;>decide
def vv.ix6(x:vv):x.ix<6:=by cases x<;>decide
def WS.Wk.trn(ok:b.Ok)(w:s.Wk b):(turned b s).Wk b:=by
 unfold turned;split
 ·exact {w with mode:=ok.some1}
 ·rename_i x k e
  exact WS.Wk.prs (s:={s with held:=some (x,none)}) ok {w with} x.ix3
def E8:n9 b (turned b s)=none:=by
 unfold turned;split
 ·rename_i e
  unfold n9;simp[e,sE]
 ·rename_i x k e
  unfold n9;rw[AV]
def uA{t:Int}(h:n9 b s=some t):1<=t:=by
 unfold n9 at h;split at h
 ·split at h
  ·cases h;exact Vo _ _
  ·cases h
 ·cases h
 ·cases h;exact Vo _ _
theorem WS.Ok.cnt{n:Int}(w:s.Ok b)(d:0<=n)(h:∀t,n9 b s=some t->n<t):(counted b s n).Ok b:=by
 refine {w.toWk.cnt d with held:=λx k e=>?_};have a:sD s.held n=some (x,some k):=e;rcases hs:s.held with _ | ⟨y,_ | j⟩
 ·rw[hs] at a;cases a
 ·rw[hs] at a;cases a
 ·rw[hs] at a
  simp[sD] at a;obtain⟨rfl,rfl⟩:=a;have f:=w.held y j hs;have c:=h (mx 1 (b.hold - j)) (by unfold n9;rw[hs]);unfold mx at c;split at c<;>omega
def Je(ok:b.Ok)(w:s.Wk b):(turned b s).Ok b:=by
 refine {w.trn ok with held:=λx k e=>?_};unfold turned at e;split at e
 ·rename_i a
  simp at e;rw[a] at e;cases e
 ·rw[AV] at e;cases e
def ND{n:Int}(ok:b.Ok)(w:s.Ok b)(d:0<=n):(ticked b s n).Ok b:=by
 unfold ticked;split
 ·rename_i e
  exact w.cnt d λt c=>by rw[e] at c;cases c
 ·rename_i t e
  have c:=uA e;split
  ·rename_i h
   exact w.cnt d λt' a=>by rw[e] at a;cases a;exact h
  ·rename_i h
   exact(Je ok (w.toWk.cnt (by omega))).cnt (by omega) λt' a=>by rw[E8] at a;cases a
def N0(ok:b.Ok)(w:s.Ok b)(x:vv):(pushed s x).Ok b:=by
 unfold pushed;split
 ·exact w
 ·have c:=ok.hold1
  refine {w with ring0:=Int.le_refl 0,ring1:=(by show(0:Int)<=10;decide),idle0:=Int.le_refl 0,idle1:=λh=>h,idle2:=λ_=>rfl,held:=λy k e=>?_};simp at e;obtain⟨_,d,a⟩:=e;subst a;omega
def QM(ok:b.Ok)(w:s.Ok b)(x:vv):(letGo b s x).Ok b:=by
 unfold letGo;split
 ·split
  ·have z:(if (by assumption:V3 Int).isSome then press b s x.ix else s).Wk b:=by
    split
    ·exact w.toWk.prs ok x.ix6
    ·exact w.toWk
   exact {z with idle0:=Int.le_refl 0,idle1:=λh=>h,idle2:=λ_=>rfl,held:=λy k e=>by cases e}
  ·exact w
 ·exact w
def Ev.Ok:Ev->Prop
 | .ticks n=>1<=n
 | _=>True
def wO(ok:b.Ok)(w:s.Ok b)(e:Ev)(h:e.Ok):(gone b s e).Ok b:=by
 cases e with
 | down x=>exact N0 ok w x
 | up x=>exact QM ok w x
 | ticks n=>exact ND ok w (by have:1<=n:=h;omega)
def qN:WS:=⟨0,0,0,0,false,0,false,[],0,0,0,false,0,none,0⟩
def yc(ok:b.Ok):qN.Ok b where
 bk:=ok.back0
 mode:=ok.some1
 clock0:=by decide
 clock1:=by decide
 ah0:=by decide
 ah1:=by decide
 am0:=by decide
 am1:=by decide
 lm0:=by decide
 lk:=by decide
 cm0:=by decide
 cm1:=by decide
 cs0:=by decide
 cs1:=by decide
 cl0:=by decide
 cl1:=by decide
 cr:=by decide
 ring0:=by decide
 ring1:=by decide
 idle0:=by decide
 idle1:=λh=>h
 idle2:=λ_=>rfl
 held:=λx k e=>by cases e
end HW
set_option maxRecDepth 10000
namespace HW
open PySem
noncomputable section
def top(i:Nat):Xi:=PySem.Challenge.pw_handwatch_k53_whole_least.main.body.getD i (.Pass ⟨0,0,0,0⟩)
def Hx:uu:=L4 "ways_from.<locals>.<lambda>" ["place","book"] ["place"] (eA 1 (sV (sB 0 (top 21))))
def HI:uu:=L4 "parts.<locals>.<lambda>" ["pair","other","one"] ["pair"] (eA 1 (sV (sB 0 (top 27))))
def Gv:uu:=L4 "least.<locals>.<lambda>" ["head","modes","heads"] ["head"] (eA 1 (eA 0 (sV (sB 2 (top 32)))))
def ao:D:=.tup [.str (oS "a"),.str (oS "b"),.str (oS "c"),.str (oS "A"),.str (oS "B"),.str (oS "C")]
def gS:D:=.tup [.str (oS "time"),.str (oS "alarm"),.str (oS "laps"),.str (oS "count")]
noncomputable def gv:D:=.tup [.str (oS "none"),.str (oS "hour"),.str (oS "minute"),.str (oS "zero"),.str (oS "ahour"),.str (oS "aminute"),.str (oS "alarm"),.str (oS "run"),.str (oS "lap"),.str (oS "cminute"),.str (oS "csecond"),.str (oS "full"),.str (oS "count")]
def dY:D:=.int 9
def dX:D:=.int 60
def bv:D:=.int 8
def bF:D:=.int 0
def aG:D:=.int 1
def aN:D:=.int 2
def bD:D:=.int 3
def aA:D:=.int 4
def dE:D:=.int 5
def aR:D:=.int 6
def cX:D:=.int 7
def dW:D:=.int 4
def en:D:=.int 10
def fH:D:=.int 86400
def cH:D:=.int 1000000000000000000
def bB:List Str:=[oS "a",oS "b",oS "c",oS "A",oS "B",oS "C"]
def Af(h1:st d ρ=some ρ1)(a:body ρ1=some (.nx ρ2)):xE st body (d::ds) ρ=xE st body ds ρ2:=by
 show(st d ρ).bind _=_;rw[h1];show(body ρ1).bind _=_;rw[a];rfl
def wG(h1:it ρ=some ds)(a:xE st body ds ρ=some o):yh it st body ρ=some o:=by simp[h1,a]
def i6(h:f ρ=some (.nx ρ2)):i4 f g ρ=g ρ2:=by simp[h]
def yU(h:c ρ=some true):uG c f g ρ=f ρ:=by simp[h]
def v5(h:c ρ=some false):uG c f g ρ=g ρ:=by simp[h]
def um(h:f ρ=some (.rt d)):i4 f g ρ=some (.rt d):=by simp[h]
def qO(h:f ρ=some d)(a:st d ρ=some ρ'):i7 f st ρ=some (.nx ρ'):=by simp[h,a]
def d8(h:g ρ=some ds)(a:F ds=some d):d3 F g ρ=some d:=by simp[h,a]
def qM(h:f ρ=some d)(a:g ρ=some ds):b8 f g ρ=some (d::ds):=by simp[h,a]
def i3(h1:f ρ=some x)(a:g ρ=some y)(h:F x y=some z):d6 F f g ρ=some z:=by simp only[d6,h1,a,Wa,h]
def si(h1:f ρ=some x)(a:g ρ=some y)(h:F x y=some b):i9 F f g ρ=some b:=by simp only[i9,h1,a,Wa,h]
def tupS(h:g ρ=some ds):l9 g ρ=some (.tup ds):=by simp[h]
def HU(h:c ρ=some b):zJ c ρ=some (.bl b):=by simp[h]
def BP(h1:f ρ=some x)(g:l ρ=some a)(e:h ρ=some b)(c:Vg x a b=some d):Jp f l h ρ=some d:=by simp only[Jp,h1,g,e,Wa,c]
def Sf(h1:c ρ=some false)(a:d ρ=some false):Jo c d ρ=some false:=by simp[h1,a]
def Vj(h1:c ρ=some false):BQ c d ρ=some false:=by simp[h1]
def TK(h1:c ρ=some true)(a:d ρ=some b):BQ c d ρ=some b:=by simp[h1,a]
def EX(h1:f ρ=some (.bl true))(a:g ρ=some d):vy f g ρ=some d:=by simp[h1,a]
def Et(h:c ρ=some b):yn c ρ=some (!b):=by simp[h]
def Em(h:f ρ=some (.bl b)):tQ f ρ=some b:=by simp[h]
def Oc(h:c ρ=some true)(a:f ρ=some d):Ha c f g ρ=some d:=by simp[h,a]
def Od(h:c ρ=some false)(a:g ρ=some d):Ha c f g ρ=some d:=by simp[h,a]
def Ub(h1:c ρ=some true):Jo c d ρ=some true:=by simp[h1]
def RM(h1:c ρ=some false)(a:d ρ=some b):Jo c d ρ=some b:=by simp[h1,a]
def RZ(h:g ρ=some ds):x3 g ρ=some (.lst ds):=by simp[h]
def T4(h1:f ρ=some x)(h:F x=some z):NV F f ρ=some z:=by simp only[NV,h1,Wa,h]
def k6{k n:Nat}(h:g (AM n ds)=some (.rt d))(a:ds.length=k:=by rfl):via k n g ds=some d:=by unfold via;rw[Wc a,h];rfl
def Jg(h1:f ρ=some (.bl false)):vy f g ρ=some (.bl false):=by simp[h1]
def retS(h:f ρ=some d):i5 f ρ=some (.rt d):=by simp[h]
def VL(i:Int):zo (.int i) (.int i)=some true:=by simp
def modS{i j:Int}(h:0<j):rn (.int i) (.int j)=some (.int (i%j)):=by simp[h]
def Ez{i j:Int}(h:rQ i j=true):wx (.int i) (.int j)=some (.int (i*j)):=by
 show(if rQ i j=true then _ else none)=_;rw[Wc h]
def U_{i j q:Int}(h:0<j)(e:i%j=q):rn (.int i) (.int j)=some (.int q):=by rw[<- e];exact modS h
def VA{i:Int}(h:i=0):some (i==0)=some true:=by rw[h];rfl
def VR{i:Int}(h:¬ i=0):some (i==0)=some false:=by rw[WQ.mpr h]
def dT[Decidable p](h:p):some (decide p)=some true:=by rw[WP h]
def dF[Decidable p](h:¬ p):some (decide p)=some false:=by rw[Wx h]
mutual
theorem E7:∀d:D,uF d=true->zB d d=true
 | .non,_=>rfl
 | .bl b,_=>beq_self_eq_true b
 | .int i,_=>beq_self_eq_true i
 | .str x,_=>beq_self_eq_true x
 | .tup xs,h=>wR xs h
 | .lst xs,h=>wR xs h
 | .fro xs,h=>wR xs h
 | .obj ..,h=>by cases h
 | .dct ..,h=>by cases h
 | .dcp ..,h=>by cases h
 | .cl ..,h=>by cases h
theorem wR:∀ds:LD,rW ds=true->xM ds ds=true
 | [],_=>rfl
 | d::ds,h=>by
  have h':(uF d&&rW ds)=true:=h;rw[Wj] at h';show(zB d d&&xM ds ds)=true;rw[E7 d h'.1,wR ds h'.2];rfl
end
def CO(h:rZ d<=100)(a:qS d=true):EG d d=some true:=by unfold EG;rw[Wc ⟨h,a,a⟩,E7 _ (av a)]
def vt(h:rZ d<=100)(a:qS d=true):uq d d=some false:=by unfold uq;rw[CO h a];rfl
def Gi(l:List Int):rP (l.map D.int)=0:=by induction l with | nil=>rfl | cons a l ih=>simp[rP,rZ,ih]
def Gc(l:List Int):q_ (l.map D.int)=true:=by induction l with | nil=>rfl | cons a l ih=>simp[q_,qS,ih]
def mO(x:vv):qS (.str x.x)=true:=by rw[qS];cases x<;>decide +kernel
def VO:8<=sizeLine:=by decide
def w0(s:WS):e8 s.d (.int 0)=some (.int (s.mode:Int)):=rfl
def w1(s:WS):e8 s.d (.int 1)=some (.int s.clock):=rfl
def w2(s:WS):e8 s.d (.int 2)=some s.alarmD:=rfl
def w3(s:WS):e8 s.d (.int 3)=some s.lapsD:=rfl
def w4(s:WS):e8 s.d (.int 4)=some s.countD:=rfl
def w5(s:WS):e8 s.d (.int 5)=some (.int s.ring):=rfl
def w6(s:WS):e8 s.d (.int 6)=some (B9 s.held):=rfl
def w7(s:WS):e8 s.d (.int 7)=some (.int s.idle):=rfl
def SD(s:WS):e8 s.alarmD (.int 0)=some (.int s.ah):=rfl
def Se(s:WS):e8 s.alarmD (.int 1)=some (.int s.am):=rfl
def Sn(s:WS):e8 s.alarmD (.int 2)=some (.bl s.aon):=rfl
def SR(s:WS):e8 s.lapsD (.int 0)=some (.int s.lm):=rfl
def Ua(s:WS):e8 s.lapsD (.int 1)=some (.bl s.lr):=rfl
def Ta(s:WS):e8 s.lapsD (.int 2)=some (.tup (s.lk.map .int)):=rfl
def Su(s:WS):e8 s.countD (.int 0)=some (.int s.cm):=rfl
def Ss(s:WS):e8 s.countD (.int 1)=some (.int s.cs):=rfl
def TR(s:WS):e8 s.countD (.int 2)=some (.int s.cl):=rfl
def UQ(s:WS):e8 s.countD (.int 3)=some (.bl s.cr):=rfl
def b0(b:Bk):e8 b.d (.int 0)=some (.int b.hold):=rfl
def b1(b:Bk):e8 b.d (.int 1)=some (.int b.back):=rfl
def b2(b:Bk):e8 b.d (.int 2)=some (.tup (b.modes.map Md.d)):=rfl
def m0(m:Md):e8 m.d (.int 0)=some (.str m.face.x):=rfl
def m1(m:Md):e8 m.d (.int 1)=some (.bl m.stays):=rfl
def m2(m:Md):e8 m.d (.int 2)=some (.tup (m.rows.map q9)):=rfl
def r0(r:rH×Nat):e8 (q9 r) (.int 0)=some (.str r.1.x):=rfl
def r1(r:rH×Nat):e8 (q9 r) (.int 1)=some (.int (r.2:Int)):=rfl
def h0(x:vv)(k:V3 Int):e8 (B9 (some (x,k))) (.int 0)=some (.str x.x):=rfl
def h1(x:vv)(k:V3 Int):e8 (B9 (some (x,k))) (.int 1)=some (rN k):=rfl
def C_{i:Nat}(h:i<xs.length):C9 xs (i:Int)=some xs[i]:=by
 unfold C9 Ry;rw[Wc (by omega),Wc (by omega)];simp[h]
def gK(b:Bk){m:Nat}(h:m<b.modes.length):e8 (.tup (b.modes.map Md.d)) (.int (m:Int))=some (b.modes.getD m default).d:=by
 show C9 _ _=_;rw[C_ (by simpa using h)];simp[Wn,h]
def pY(m:Md){i:Nat}(h:i<m.rows.length):e8 (.tup (m.rows.map q9)) (.int (i:Int))=some (q9 (m.rows.getD i (.none,0))):=by
 show C9 _ _=_;rw[C_ (by simpa using h)];simp[Wn,h]
def mw(b:Bk){m:Nat}(h:m<b.modes.length):b.modes.getD m default∈b.modes:=by
 have e:b.modes.getD m default=b.modes[m]:=by simp[Wn,h]
 rw[e];exact List.getElem_mem h
def Td{i j:Int}(h1 : -(2 ^ 64)<i)(a:i<2 ^ 64):wx (.int i) (.int j)=some (.int (i*j)):=by simp[tO h1 a]
def NM(j:Int):wx (.int 3600) (.int j)=some (.int (3600*j)):=Td (by decide) (by decide)
def Po(j:Int):wx (.int 60) (.int j)=some (.int (60*j)):=Td (by decide) (by decide)
def M2(k:V3 Int):uQ (rN k) .non=some k.isSome:=by cases k<;>rfl
def R4(i j:Int):DY [.int i,.int j]=some (.int (mx i j)):=rfl
def whole:D->Bool
 | .int _=>true
 | _=>false
def within(d:D)(l m:Int):Bool:=match d with
 | .int i=>decide (l<=i)&&decide (i<=m)
 | _=>false
def oneOf(d:D)(ws:LD):Bool:=match d with
 | .str x=>ws.any λy=>PH y (.str x)
 | _=>false
def Vp(d:D)(m:Int):Bool:=match d with
 | .tup xs=>(xs.length:Int)==m
 | _=>false
noncomputable def x8:LD:=[.str (oS "none"),.str (oS "hour"),.str (oS "minute"),.str (oS "zero"),.str (oS "ahour"),.str (oS "aminute"),.str (oS "alarm"),.str (oS "run"),.str (oS "lap"),.str (oS "cminute"),.str (oS "csecond"),.str (oS "full"),.str (oS "count")]
def Bo:LD:=[.str (oS "time"),.str (oS "alarm"),.str (oS "laps"),.str (oS "count")]
def yi(d:D)(m:Int):Bool:=match d with
 | .tup [a,b]=>oneOf a x8&&within b 0 (m - 1)
 | _=>false
def FV(d:D)(m:Int):Bool:=match d with
 | .tup xs=>xs.length==6&&xs.all λx=>yi x m
 | _=>false
def xJ(d:D)(m:Int):Bool:=match d with
 | .tup [a,b,c]=>oneOf a Bo&&(Pd b "bool" && FV c m)
 | _=>false
def DU(d:D):Bool:=match d with
 | .tup xs=>decide (1<=xs.length)&&(decide (xs.length<=8)&&xs.all λx=>xJ x xs.length)
 | _=>false
def DW(d:D):Bool:=match d with
 | .tup [a,b,c]=>within a 1 9&&(within b 0 60&&DU c)
 | _=>false
def within_int{l h:Int}(e:within d l h=true):∃i:Int,d=.int i/\l<=i/\i<=h:=by
 cases d with
 | int i=>simp[within] at e;exact⟨i,rfl,e⟩
 | _=>cases e
def Lv(e:Pd d "bool" = true):∃b,d=.bl b:=by
 cases d with
 | bl b=>exact⟨b,rfl⟩
 | _=>simp at e
def C1(e:oneOf d ws=true):∃x,d=.str x/\(ws.any λy=>PH y (.str x))=true:=by
 cases d with
 | str x=>exact⟨x,rfl,e⟩
 | _=>cases e
def Nk(e:oneOf d x8=true):∃k:rH,d=.str k.x:=by
 obtain⟨x,rfl,h⟩:=C1 e;obtain⟨y,a,h⟩:=List.any_eq_true.mp h;have q:∀w:Str,PH (.str w) (.str x)=true->w=x:=λw z=>Xt.mp z
 simp only[x8,Wo,List.not_mem_nil,or_false] at a;rcases a with rfl | rfl | rfl | rfl | rfl | rfl | rfl | rfl | rfl | rfl | rfl | rfl | rfl
 ·exact⟨.none,congrArg D.str (q _ h).symm⟩
 ·exact⟨.hour,congrArg D.str (q _ h).symm⟩
 ·exact⟨.minute,congrArg D.str (q _ h).symm⟩
 ·exact⟨.zero,congrArg D.str (q _ h).symm⟩
 ·exact⟨.ahour,congrArg D.str (q _ h).symm⟩
 ·exact⟨.aminute,congrArg D.str (q _ h).symm⟩
 ·exact⟨.alarm,congrArg D.str (q _ h).symm⟩
 ·exact⟨.run,congrArg D.str (q _ h).symm⟩
 ·exact⟨.lap,congrArg D.str (q _ h).symm⟩
 ·exact⟨.cminute,congrArg D.str (q _ h).symm⟩
 ·exact⟨.csecond,congrArg D.str (q _ h).symm⟩
 ·exact⟨.full,congrArg D.str (q _ h).symm⟩
 ·exact⟨.count,congrArg D.str (q _ h).symm⟩
def NG(e:oneOf d Bo=true):∃k:Face,d=.str k.x:=by
 obtain⟨x,rfl,h⟩:=C1 e;obtain⟨y,a,h⟩:=List.any_eq_true.mp h;have q:∀w:Str,PH (.str w) (.str x)=true->w=x:=λw z=>Xt.mp z
 simp only[Bo,Wo,List.not_mem_nil,or_false] at a;rcases a with rfl | rfl | rfl | rfl
 ·exact⟨.time,congrArg D.str (q _ h).symm⟩
 ·exact⟨.alarm,congrArg D.str (q _ h).symm⟩
 ·exact⟨.laps,congrArg D.str (q _ h).symm⟩
 ·exact⟨.count,congrArg D.str (q _ h).symm⟩
def pN{n:Nat}(e:yi d n=true):∃r:rH×Nat,d=q9 r/\r.2<n:=by
 unfold yi at e;split at e
 ·rw[Wj] at e
  obtain⟨k,rfl⟩:=Nk e.1;obtain⟨i,rfl,h0,h1⟩:=within_int e.2;refine⟨(k,i.toNat),?_,?_⟩
  ·simp[q9,Int.toNat_of_nonneg h0]
  ·simp;omega
 ·cases e
theorem C5{b:Type}{f:b->D}{P:b->Prop}{q:D->Bool}(h:∀d,q d=true->∃a,d=f a/\P a):∀{ds:LD},ds.all q=true->∃as:List b,ds=as.map f/\∀a∈as,P a
 | [],_=>⟨[],rfl,λ_ h=>by cases h⟩
 | d::ds,e=>by
  rw[W9,Wj] at e;obtain⟨a,rfl,i⟩:=h d e.1;obtain⟨as,rfl,g⟩:=C5 h e.2;exact⟨a::as,rfl,λx c=>by rcases Wo.mp c with rfl | c;exact i;exact g x c⟩
def mF{n:Nat}(e:xJ d n=true):∃m:Md,d=m.d/\m.Ok n:=by
 unfold xJ at e;split at e
 ·rename_i a b c
  rw[Wj,Wj] at e;obtain⟨f,rfl⟩:=NG e.1;obtain⟨s,rfl⟩:=Lv e.2.1;have g:=e.2.2;cases c with
  | tup xs =>
   unfold FV at g;simp only[Wj] at g;obtain⟨rs,rfl,i⟩:=C5 (f:=q9) (P:=λr=>r.2<n) (λd h=>pN h) g.2;refine⟨⟨f,s,rs⟩,rfl,?_,i⟩;have:=g.1;simpa using this
  | _=>cases g
 ·cases e
def m_(e:DW d=true):∃b:Bk,d=b.d/\b.Ok:=by
 unfold DW at e;split at e
 ·rename_i a b c
  rw[Wj,Wj] at e;obtain⟨i,rfl,p,o⟩:=within_int e.1;obtain⟨j,rfl,n,l⟩:=within_int e.2.1;have g:=e.2.2;cases c with
  | tup xs =>
   unfold DU at g;simp only[Wj] at g;obtain⟨h1,s,r⟩:=g;obtain⟨ms,k,hok⟩:=C5 (f:=Md.d) (P:=λm=>m.Ok xs.length) (λd h=>mF h) r;have q:xs.length=ms.length:=by rw[k];simp
   refine⟨⟨i,j,ms⟩,by rw[k];rfl,p,o,n,l,?_,?_,?_⟩
   ·have:=Xh h1;show 1<=ms.length;omega
   ·have:=Xh s;show ms.length<=8;omega
   ·rw[q] at hok;exact hok
  | _=>cases g
 ·cases e
def Di(h1:f ρ=some x)(a:g ρ=some y):i9 F f g ρ=F x y:=by simp[h1,a]
def tG(h1:f ρ=some x)(a:F [x]=some d):d3 F (b8 f d4) ρ=some d:=by simp[h1,a]
def SV(h1:f ρ=some x)(b:g ρ=some y)(a:k ρ=some z):l9 (b8 f (b8 g (b8 k d4))) ρ=some (.tup [x,y,z]):=by simp[h1,b,a]
def tY(h:f ρ=some (.nx ρ2)):i4 f g ρ=g ρ2:=by simp[h]
def vF(h:f ρ=some d)(a:st d ρ=some ρ'):i7 f st ρ=some (.nx ρ'):=by simp[h,a]
def UO{m:Int}(h:f ρ=some (.int m))(h0:0<=m)(h1:m<=1000):rj f ρ=some (sa 0 m):=by
 have a : -4611686018427387904<=m/\m<4611686018427387904:=by omega
 unfold rj;rw[h];show(if -4611686018427387904<=m/\m<4611686018427387904 then some (sa 0 m) else none)=_;rw[Wc a]
def inR{n:Nat}(h:f ρ=some (.int n))(a:n<=1000):rj f ρ=some (sa 0 n):=UO h (by omega) (by omega)
def tZ(h:f ρ=some d):rm (i5 f ρ)=some d:=by simp[h]
def IV{n:Nat}(h:n<=2000):n<=sizeLine:=WD h (by decide)
theorem wC:∀{kv:KI} {x:Ky} {d:D} {r:KI},rq kv x=some d->rq (kv++r) x=some d
 | (k,d')::kv,x,d,r,h=>by
  show(if k=x then some d' else rq (kv++r) x)=some d;have h':(if k=x then some d' else rq kv x)=some d:=h;split at h'<;>rename_i a
  ·rw[Wc a];exact h'
  ·rw[Wu a];exact wC h'
def iX:R->V3 Out:=
 (i5 (vy (Qq "int" (b9 0)) (EZ (Qq "bool" (b9 0)))))
def cY:LD->OD:=via 1 1 iX
def kx:R->V3 Out:=
 (i5 (vy (d3 cY (b8 (b9 0) d4)) (zJ (i9 F_ (b9 1) (b9 0)))))
def dH:LD->OD:=via 2 2 kx
def iu:R->V3 Out:=
 (i5 (vy (d3 dH (b8 (b9 0) (b8 (b9 1) d4))) (zJ (i9 F_ (b9 0) (b9 2)))))
def bp:LD->OD:=via 3 3 iu
def fP:R->V3 Out:=
 (i5 (vy (Qq "tuple" (b9 0)) (zJ (i9 zo (d3 rY (b8 (b9 0) d4)) (b9 1)))))
def aC:LD->OD:=via 2 2 fP
def iV:R->V3 Out:=
 (i5 (Qq "bool" (b9 0)))
def cZ:LD->OD:=via 1 1 iV
def iF:R->V3 Out:=
 (i5 (vy (Qq "str" (b9 0)) (zJ (i9 S3 (b9 0) (b9 1)))))
def bR:LD->OD:=via 2 2 iF
def ll:R->V3 Out:=
 (i5 (vy (d3 aC (b8 (b9 0) (b8 (kI 2) d4))) (vy (d3 bR (b8 (d6 e8 (b9 0) (kI 0)) (b8 (λ_=>some gv) d4))) (d3 bp (b8 (d6 e8 (b9 0) (kI 1)) (b8 (kI 0) (b8 (d6 uZ (b9 1) (kI 1)) d4)))))))
def dq:LD->OD:=via 2 2 ll
def i_:R->V3 Out:=
  (i4 (uG (yn (tQ (d3 aC (b8 (b9 0) (b8 (d3 rY (b8 (λ_=>some ao) d4)) d4)))))
  (i5 (λ_=>some (.bl false)))
  qZ)
  (i5 (d3 Jl (b8 (uh 1 (qU (b9 0)) (setAt 0) rF (d3 dq (b8 (b9 0) (b8 (b9 2) d4)))) d4))))
def cS:LD->OD:=via 2 2 i_
def j3:R->V3 Out:=
  (i4 (uG (yn (tQ (d3 aC (b8 (b9 0) (b8 (kI 3) d4)))))
  (i5 (λ_=>some (.bl false)))
  qZ)
  (i5 (vy (d3 bR (b8 (d6 e8 (b9 0) (kI 0)) (b8 (λ_=>some gS) d4))) (vy (d3 cZ (b8 (d6 e8 (b9 0) (kI 1)) d4)) (d3 cS (b8 (d6 e8 (b9 0) (kI 2)) (b8 (b9 1) d4)))))))
def cG:LD->OD:=via 2 2 j3
def hW:R->V3 Out:=
  (i4 (uG (Jo (yn (tQ (Qq "tuple" (b9 0)))) (yn (Oj F_ F_ (kI 1) (d3 rY (b8 (b9 0) d4)) (λ_=>some bv))))
  (i5 (λ_=>some (.bl false)))
  qZ)
  (i5 (d3 Jl (b8 (uh 1 (qU (b9 0)) (setAt 0) rF (d3 cG (b8 (b9 0) (b8 (d3 rY (b8 (b9 1) d4)) d4)))) d4))))
def cu:LD->OD:=via 1 1 hW
def kE:R->V3 Out:=
  (i4 (uG (yn (tQ (d3 aC (b8 (b9 0) (b8 (kI 3) d4)))))
  (i5 (λ_=>some (.bl false)))
  qZ)
  (i5 (vy (d3 bp (b8 (d6 e8 (b9 0) (kI 0)) (b8 (kI 1) (b8 (λ_=>some dY) d4)))) (vy (d3 bp (b8 (d6 e8 (b9 0) (kI 1)) (b8 (kI 0) (b8 (λ_=>some dX) d4)))) (d3 cu (b8 (d6 e8 (b9 0) (kI 2)) d4))))))
def dG:LD->OD:=via 1 1 kE
def ni:R->V3 Out:=
 (i5 (uh 1 (qU (d6 e8 (b9 0) (kI 2))) (setAt 0) rF (d6 e8 (b9 0) (kI 1))))
def bi:LD->OD:=via 1 1 ni
def gs:R->V3 Out:=
 (i5 (UZ (d3 bi (b8 (b9 0) d4)) (d3 bi (b8 (b9 1) d4))))
def ba:LD->OD:=via 2 2 gs
def dQ:R->V3 Out:=
 (i5 (uh 1 (qU (d3 bi (b8 (b9 0) d4))) (setAt 0) rF (d6 e8 (b9 2) (b9 0))))
def af:LD->OD:=via 2 2 dQ
def Ku:R->OD:=(d3 bi (b8 (d6 e8 (d6 e8 (b9 1) (kI 2)) (b9 0)) d4))
def KF:R->OD:=(d3 ba (b8 (d6 e8 (d6 e8 (b9 2) (kI 2)) (d6 e8 (b9 0) (kI 0))) (b8 (d6 e8 (d6 e8 (b9 1) (kI 2)) (d6 e8 (b9 0) (kI 1))) d4)))
def K4:R->OD:=(d3 af (b8 (d6 e8 (b9 1) (b9 0)) (b8 (b9 2) d4)))
def LL:Hu:=λt=>open Classical in if t=Hx then some (xY 2 Ku) else if t=HI then some (xY 3 KF) else if t=Gv then some (xY 3 K4) else none
def VF:LL Hx=some (xY 2 Ku):=Wc rfl
def US:Hx.ps.length=1:=rfl
def VZ:LL HI=some (xY 3 KF):=(Wu λh=>Wz (congrArg (λt:uu=>U1 t.body) h) (by decide)).trans (Wc rfl)
def Ur:HI.ps.length=1:=rfl
def VX:LL Gv=some (xY 3 K4):=(Wu λh=>Wz (congrArg (λt:uu=>U1 t.body) h) (by decide)).trans ((Wu λh=>Wz (congrArg (λt:uu=>U1 t.body) h) (by decide)).trans (Wc rfl))
def Ue:Gv.ps.length=1:=rfl
def fE:R->Nat->KI->V3 (D×KI):=
  (Fs 6
  (yj (qU (b9 1)) (setAt 3)
  (F0 (HX (i7 (x6 LL 2 (b8 (b9 3) d4)) (setAt 4)))
  (yj (rj (d3 rY (b8 (λ_=>some ao) d4))) (setAt 5)
  (TF (yO 0 (d6 e8 (b9 4) (b9 5)))
  (F0 (Lh 0 (d6 e8 (b9 4) (b9 5)) (IO n6 (Bc 0 (b9 3)) (IC (d6 e8 (λ_=>some ao) (b9 5)))))
  (NI 6 (d6 e8 (b9 4) (b9 5))))
  J5)))))
def ae:LD->Nat->KI->V3 (D×KI):=λds=>fE (AM 7 ds)
noncomputable def vk:List Str:=[oS "a",oS "b",oS "c",oS "A",oS "B",oS "C"]
def rV(w:Str)(s:KI×LD)(a:Ky×Str):KI×LD:=if (rq s.1 a.1).isNone then (s.1++[(a.1,.str (w++a.2))],s.2++[l6 a.1]) else s
def J0(lf:Bool)(kv:KI):Prop:=kv ≠ []/\∀p∈kv,p.1.isLeft=lf
theorem J0.kin(h:J0 lf kv)(b:k.isLeft=lf):kin kv k=true:=by
 unfold HW.kin;rw[Wj];refine⟨?_,Xe.mpr λp a=>by rw[h.2 p a,b];simp⟩;cases kv with
 | nil=>exact Wz rfl h.1
 | cons=>rfl
def xV:∀k:Ky,zK (l6 k)=some k
 | .inl _=>rfl
 | .inr _=>rfl
def Hs(h:J0 lf s.1)(c:a.1.isLeft=lf):J0 lf (rV w s a).1:=by
 unfold rV;split
 ·refine⟨by simp,λp b=>?_⟩
  rcases WY.mp b with z | z
  ·exact h.2 p z
  ·rw[Wh.mp z];exact c
 ·exact h
theorem EO(w:Str):∀(l:List (Ky×Str)) {s:KI×LD},J0 lf s.1->(∀q∈l,q.1.isLeft=lf)->J0 lf (l.foldl (rV w) s).1
 | [],_,h,_=>h
 | e::l,s,h,hl=>EO w l (Hs h (hl e Ws)) λq a=>hl q (Wt _ a)
def RF:WU:=(TF (yO 0 (d6 e8 (b9 4) (b9 5)))
  (F0 (Lh 0 (d6 e8 (b9 4) (b9 5)) (IO n6 (Bc 0 (b9 3)) (IC (d6 e8 (λ_=>some ao) (b9 5)))))
  (NI 6 (d6 e8 (b9 4) (b9 5))))
  J5)
def yJ{i:Nat}(h:xs[i]?=some x):C9 xs (i:Int)=some x:=by
 have a:=(Wm.mp h).1;unfold C9 Ry;rw[Wc (by omega),Wc (by omega)];exact h
def M9{d:Nat}{a1 a2:OD}{x:Ky}{es:List Ky}{i:Nat}{e:Ky}{p w:Str}{kv:KI}{ds:LD}(u:es[i]?=some e)(l:vk[i]?=some p)(q:rq kv x=some (.str w))(t:kv.length<1000)(hd:ds.length<1000)(B:w.length<1000){lf:Bool}(b:J0 lf kv)(k:x.isLeft=lf)(g:e.isLeft=lf) :
  RF [some (.obj 1 d [] []),a1,a2,some (l6 x),some (.lst (es.map l6)),some (.int i)] d kv ds=some (.nx [some (.obj 1 d [] []),a1,a2,some (l6 x),some (.lst (es.map l6)),some (.int i)],rV w (kv,ds) (e,p)):=by
 have h:d6 e8 (b9 4) (b9 5) [some (.obj 1 d [] []),a1,a2,some (l6 x),some (.lst (es.map l6)),some (.int i)]=some (l6 e):=by
  show C9 (es.map l6) (i:Int)=_;exact yJ (by rw[Wg,u];rfl)
 have o:d6 e8 (λ_=>some ao) (b9 5) [some (.obj 1 d [] []),a1,a2,some (l6 x),some (.lst (es.map l6)),some (.int i)]=some (.str p):=by
  show C9 (vk.map .str) (i:Int)=_;exact yJ (by rw[Wg,l];rfl)
 have a:isAt 0 [some (.obj 1 d [] []),a1,a2,some (l6 x),some (.lst (es.map l6)),some (.int i)] d:=rfl
 have r:p.length<=1:=by
  have:∀y∈vk,y.length<=1:=by decide +kernel
  exact this p (Wi l)
 generalize c:[some (.obj 1 d [] []),a1,a2,some (l6 x),some (.lst (es.map l6)),some (.int i)]=ρ at *
 have m:b9 3 ρ=some (l6 x):=by rw[<- c];rfl
 have f:ρ.length=6:=by rw[<- c];rfl
 have n:yO 0 (d6 e8 (b9 4) (b9 5)) ρ d kv=some (rq kv e).isNone:=by
  unfold yO;rw[h];show((zK (l6 e)).bind λj=>if isAt 0 ρ d/\kin kv j=true then some (rq kv j).isNone else none)=_;rw[xV,Wa,Wc ⟨a,b.kin g⟩]
 unfold RF TF;rw[n,Wa];unfold rV;cases s:(rq kv e).isNone with
 | false=>rfl
 | true =>
  rw[Wc rfl,Wc rfl]
  have A:Bc 0 (b9 3) ρ d kv=some (.str w):=by
   unfold Bc;rw[m];show((zK (l6 x)).bind λj=>if isAt 0 ρ d/\kin kv j=true then rq kv j else none)=_;rw[xV,Wa,Wc ⟨a,b.kin k⟩,q]
  have z:IO n6 (Bc 0 (b9 3)) (IC (d6 e8 (λ_=>some ao) (b9 5))) ρ d kv=some (.str (w++p)):=by
   unfold IO IC;rw[A,Wa,o,Wa];show(if w.length+p.length<=sizeLine then _ else _)=_;rw[Wc (IV (by omega))]
  have v:Lh 0 (d6 e8 (b9 4) (b9 5)) (IO n6 (Bc 0 (b9 3)) (IC (d6 e8 (λ_=>some ao) (b9 5)))) ρ d kv ds=some (.nx ρ,kv++[(e,.str (w++p))],ds):=by
   unfold Lh;rw[z,Wa,h,Wa];rw[xV,Wa,Wc ⟨a,b.kin g,s,t⟩]
  unfold F0;rw[v,Wa];unfold NI;show((d6 e8 (b9 4) (b9 5) ρ).bind λd=>if ρ.length=6/\ds.length<sizeLine then _ else _)=_;rw[h,Wa,Wc ⟨f,Wv hd (by decide)⟩]
theorem Ho{d:Nat}{a1 a2:OD}{x:Ky}{es:List Ky}{w:Str}{lf:Bool}(b:x.isLeft=lf)(a:∀e∈es,e.isLeft=lf)(i:es.length=6)(l:w.length<1000):∀(k:Nat) (o:OD) (kv:KI) (ds:LD),k<=6->J0 lf kv->rq kv x=some (.str w)->kv.length+k<1000->ds.length+k<1000 ->
  ∃g,FD (setAt 5) RF ((sa 0 6).drop (6 - k)) [some (.obj 1 d [] []),a1,a2,some (l6 x),some (.lst (es.map l6)),o] d kv ds=some (.nx [some (.obj 1 d [] []),a1,a2,some (l6 x),some (.lst (es.map l6)),g],((es.zip vk).drop (6 - k)).foldl (rV w) (kv,ds))
 | 0,o,kv,ds,_,_,_,_,_=>by
  refine⟨o,?_⟩;have j:(es.zip vk).drop 6=[]:=List.drop_eq_nil_of_le (by simp[vk,i]);rw[j];rfl
 | k+1,o,kv,ds,hk,hKd,hw,h1,h2=>by
  have n:6 - (k+1)<6:=by omega
  have s:(sa 0 6).drop (6 - (k+1))=.int ((6 - (k+1):Nat):Int)::(sa 0 6).drop (6 - k):=by
   have c:(sa 0 6).length=6:=rfl;rw[W6 (by rw[c];exact n),show 6 - (k+1)+1=6 - k by omega];congr 1;simp[sa]
  have hz:(es.zip vk).length=6:=by simp[vk,i]
  have j:(es.zip vk).drop (6 - (k+1))=(es.zip vk)[6 - (k+1)]'(by omega)::(es.zip vk).drop (6 - k):=by
   rw[W6 (by omega),show 6 - (k+1)+1=6 - k by omega]
  rw[s,j,List.getElem_zip,List.foldl_cons];have q:es[6 - (k+1)]?=some es[6 - (k+1)]:=List.getElem?_eq_getElem (by omega);have m:vk[6 - (k+1)]?=some (vk[6 - (k+1)]'(by simp[vk];omega)):=List.getElem?_eq_getElem _;have t:=M9 (d:=d) (a1:=a1) (a2:=a2) (ds:=ds) q m hw (by omega) (by omega) l hKd b (a _ (List.getElem_mem _));have f:J0 lf (rV w (kv,ds) (es[6 - (k+1)],vk[6 - (k+1)]'(by simp[vk];omega))).1:=Hs hKd (a _ (List.getElem_mem _));generalize es[6 - (k+1)]=e at *
  generalize (vk[6 - (k+1)]'(by simp[vk];omega))=p at *
  obtain⟨h,v,u⟩:rq (rV w (kv,ds) (e,p)).1 x=some (.str w)/\(rV w (kv,ds) (e,p)).1.length<=kv.length+1/\(rV w (kv,ds) (e,p)).2.length<=ds.length+1:=by
   unfold rV;split
   ·exact⟨wC hw,by simp,by simp⟩
   ·exact⟨hw,Nat.le_succ _,Nat.le_succ _⟩
  obtain⟨g,r⟩:=Ho (d:=d) (a1:=a1) (a2:=a2) (x:=x) b a i l k (some (.int ((6 - (k+1):Nat):Int))) (rV w (kv,ds) (e,p)).1 (rV w (kv,ds) (e,p)).2 (by omega) f h (by omega) (by omega);refine⟨g,?_⟩;show((some [some (.obj 1 d [] []),a1,a2,some (l6 x),some (.lst (es.map l6)),some (.int ((6 - (k+1):Nat):Int))]:V3 R)).bind _=_;rw[Wa,t];exact r
def zx(kv:KI)(x:Ky):Str:=match rq kv x with
 | some (.str w)=>w
 | _=>oS ""
def sN(go:Ky->List Ky)(s:KI×LD)(x:Ky):KI×LD:=((go x).zip vk).foldl (rV (zx s.1 x)) s
def Ju:WU:=(F0 (HX (i7 (x6 LL 2 (b8 (b9 3) d4)) (setAt 4)))
 (yj (rj (d3 rY (b8 (λ_=>some ao) d4))) (setAt 5) RF))
def Gives(c:D)(go:Ky->List Ky)(x:Ky):Prop:=(go x).length=6/\∀ ρ:R,b9 2 ρ=some c->b9 3 ρ=some (l6 x)->x6 LL 2 (b8 (b9 3) d4) ρ=some (.lst ((go x).map l6))
def Kn{d:Nat}(a:x.isLeft=lf)(f:∀e∈go x,e.isLeft=lf)(g:J0 lf kv)(n:Gives c go x)(h:rq kv x=some (.str w))(l:w.length<1000)(m:kv.length+6<1000)(hd:ds.length+6<1000) :
  ∃j i,Ju [some (.obj 1 d [] []),a1,some c,some (l6 x),o4,o5] d kv ds=some (.nx [some (.obj 1 d [] []),a1,some c,some (l6 x),j,i],sN go (kv,ds) x):=by
 obtain⟨p,o⟩:=n;have s:=o [some (.obj 1 d [] []),a1,some c,some (l6 x),o4,o5] rfl rfl;obtain⟨k,r⟩:=Ho (d:=d) (a1:=a1) (a2:=some c) (x:=x) (es:=go x) (w:=w) a f p l 6 o5 kv ds (Wl _) g h m hd;refine⟨some (.lst ((go x).map l6)),k,?_⟩;have b:zx kv x=w:=by unfold zx;rw[h]
 have q:HX (i7 (x6 LL 2 (b8 (b9 3) d4)) (setAt 4)) [some (.obj 1 d [] []),a1,some c,some (l6 x),o4,o5] d kv ds=some (.nx [some (.obj 1 d [] []),a1,some c,some (l6 x),some (.lst ((go x).map l6)),o5],kv,ds):=by
  show((x6 LL 2 (b8 (b9 3) d4) _).bind λv=>(setAt 4 v _).map Out.nx).map _=_;rw[s];rfl
 unfold Ju F0;rw[q,Wa];show yj (rj (d3 rY (b8 (λ_=>some ao) d4))) (setAt 5) RF [some (.obj 1 d [] []),a1,some c,some (l6 x),some (.lst ((go x).map l6)),o5] d kv ds=_;unfold yj;show(some (sa 0 6)).bind _=_;rw[Wa];unfold sN;show FD (setAt 5) RF (sa 0 6) _ d kv ds=some (_,(((go x).zip vk).foldl (rV (zx kv x)) (kv,ds)));rw[b];exact r
def Ks(w:Str)(s:KI×LD)(a:Ky×Str):(rV w s a).1.length<=s.1.length+1/\(rV w s a).2.length<=s.2.length+1:=by
 unfold rV;split
 ·exact⟨by simp,by simp⟩
 ·exact⟨Nat.le_succ _,Nat.le_succ _⟩
theorem Ce(w:Str):∀(l:List (Ky×Str)) (s:KI×LD),(l.foldl (rV w) s).1.length<=s.1.length+l.length/\(l.foldl (rV w) s).2.length<=s.2.length+l.length
 | [],s=>⟨Wl _,Wl _⟩
 | e::l,s=>by
  have h1:=Ks w s e;have a:=Ce w l (rV w s e);rw[List.foldl_cons,WH];omega
def LZ(w:Str)(h:rq s.1 x=some d):rq (rV w s a).1 x=some d:=by
 unfold rV;split
 ·exact wC h
 ·exact h
theorem Cv(w:Str):∀(l:List (Ky×Str)) {s:KI×LD} {x:Ky} {d:D},rq s.1 x=some d->rq (l.foldl (rV w) s).1 x=some d
 | [],_,_,_,h=>h
 | e::l,s,x,d,h=>Cv w l (LZ w h)
theorem Fb{d:Nat}:∀(xs:List Ky) (b o4 o5:OD) (kv:KI) (ds:LD),J0 lf kv->(∀x∈xs,(Gives c go x/\x.isLeft=lf/\∀e∈go x,e.isLeft=lf)/\∃w,rq kv x=some (.str w)/\w.length<1000)->kv.length+6*xs.length<1000->ds.length+6*xs.length<1000 ->
  ∃u g f,FD (setAt 3) Ju (xs.map l6) [some (.obj 1 d [] []),a1,some c,b,o4,o5] d kv ds=some (.nx [some (.obj 1 d [] []),a1,some c,u,g,f],xs.foldl (sN go) (kv,ds))
 | [],b,o4,o5,kv,ds,_,_,_,_=>⟨b,o4,o5,rfl⟩
 | x::xs,b,o4,o5,kv,ds,hKd,h,h1,h2=>by
  rw[WH] at h1 h2;obtain⟨⟨m,i,a⟩,w,z,C⟩:=h x Ws;obtain⟨g,f,t⟩:=Kn (d:=d) (a1:=a1) (o4:=o4) (o5:=o5) (ds:=ds) i a hKd m z C (by omega) (by omega);have hz:((go x).zip vk).length=6:=by simp[vk,m.1]
  have B:(sN go (kv,ds) x).1.length<=kv.length+6/\(sN go (kv,ds) x).2.length<=ds.length+6:=by
   have:=Ce (zx kv x) ((go x).zip vk) (kv,ds);rw[hz] at this;exact this
  obtain⟨s,p,o,r⟩:=Fb (d:=d) (a1:=a1) (c:=c) (go:=go) xs (some (l6 x)) g f (sN go (kv,ds) x).1 (sN go (kv,ds) x).2 (EO _ _ hKd λq A=>a q.1 (List.of_mem_zip A).1) (λy v=>by
   obtain⟨l,n,j,k⟩:=h y (Wt _ v);exact⟨l,n,Cv _ _ j,k⟩) (by omega) (by omega)
  refine⟨s,p,o,?_⟩;show((some [some (.obj 1 d [] []),a1,some c,some (l6 x),o4,o5]:V3 R)).bind _=_;rw[Wa,t];exact r
def LK{d:Nat}{c:D}{go:Ky->List Ky}{xs:List Ky}{kv:KI}{lf:Bool}(a:J0 lf kv)(h:∀x∈xs,(Gives c go x/\x.isLeft=lf/\∀e∈go x,e.isLeft=lf)/\∃w,rq kv x=some (.str w)/\w.length<1000)(h1:kv.length+6*xs.length<1000) :
  ae [.obj 1 d [] [],.lst (xs.map l6),c] d kv=some (.lst (xs.foldl (sN go) (kv,[])).2,(xs.foldl (sN go) (kv,[])).1):=by
 obtain⟨g,f,b,r⟩:=Fb (d:=d) (a1:=some (.lst (xs.map l6))) (c:=c) (go:=go) xs none none none kv [] a h h1 (by simp;omega);show Fs 6 (yj (qU (b9 1)) (setAt 3) Ju) [some (.obj 1 d [] []),some (.lst (xs.map l6)),some c,none,none,none,none] d kv=_;unfold Fs;rw[Wc (show([some (.obj 1 d [] []),some (.lst (xs.map l6)),some c,none,none,none,none]:R).length=6+1 from rfl)];have e:yj (qU (b9 1)) (setAt 3) Ju [some (.obj 1 d [] []),some (.lst (xs.map l6)),some c,none,none,none] d kv []=some (.nx [some (.obj 1 d [] []),some (.lst (xs.map l6)),some c,g,f,b],xs.foldl (sN go) (kv,[])):=r;show(yj (qU (b9 1)) (setAt 3) Ju [some (.obj 1 d [] []),some (.lst (xs.map l6)),some c,none,none,none] d kv []).bind _=_;rw[e];rfl
def i8(kv:KI):List Ky:=kv.map (·.1)
theorem vp:∀{kv:KI} {x:Ky},rq kv x=none↔x∉i8 kv
 | [],x=>by simp[rq,i8]
 | (k,d)::kv,x=>by
  have a:=vp (kv:=kv) (x:=x);show(if k=x then some d else rq kv x)=none↔x∉k::i8 kv;by_cases h:k=x
  ·rw[Wc h];simp[h]
  ·rw[Wu h,a,Wo,not_or]
   exact⟨λz=>⟨λq=>h q.symm,z⟩,λz=>z.2⟩
theorem wJ:∀{kv:KI} {x:Ky} {d:D},(i8 kv).Nodup->(x,d)∈kv->rq kv x=some d
 | (k,d')::kv,x,d,nd,h=>by
  have a:(k::i8 kv).Nodup:=nd;rw[List.nodup_cons] at a;show(if k=x then some d' else rq kv x)=some d;rcases Wo.mp h with e | h
  ·cases e;rw[Wc rfl]
  ·have:k≠x:=λz=>a.1 (z ▸ List.mem_map.mpr ⟨(x,d),h,rfl⟩)
   rw[Wu this];exact wJ a.2 h
def Lm(p:Ky×Str):Ky×D:=(p.1,.str p.2)
def Good(k:KI)(L:Nat)(bx:List Ky)(go:Ky->List Ky)(p:Ky×Str):Prop:=True/\p.1∈bx/\p.2.length=L+1/\∃(x:Ky) (w:Str) (i:Nat) (a:Str),(x,D.str w)∈k/\(go x)[i]?=some p.1/\vk[i]?=some a/\p.2=w++a
def RE(k:KI)(L:Nat)(bx:List Ky)(go:Ky->List Ky)(s:KI×LD):Prop:=∃ext:List (Ky×Str),s.1=k++ext.map Lm/\s.2=ext.map (λp=>l6 p.1)/\(∀p∈ext,Good k L bx go p)/\(i8 s.1).Nodup
def yE{i:Nat}(h:vk[i]?=some a):a.length=1:=by
 have:∀y∈vk,y.length=1:=by decide +kernel
 exact this a (Wi h)
def str_len(a b:Str):(a++b).length=a.length+b.length:=by show(a.cps++b.cps).size=_;rw[Array.size_append];rfl
def MT{L:Nat}{i:Nat}(B:RE k L bx go s)(o:(x,D.str w)∈k)(q:w.length=L)(u:(go x)[i]?=some e)(j:vk[i]?=some c)(h0:True)(r:e∈bx) :
  RE k L bx go (rV w s (e,c))/\e∈i8 (rV w s (e,c)).1/\∀y∈i8 s.1,y∈i8 (rV w s (e,c)).1:=by
 obtain⟨ext,n,m,l,nd⟩:=B;unfold rV;by_cases h:(rq s.1 e).isNone=true
 ·rw[Wc h]
  have t:e∉i8 s.1:=vp.mp (Option.isNone_iff_eq_none.mp h);have d:i8 (s.1++[(e,D.str (w++c))])=i8 s.1++[e]:=by simp[i8]
  refine⟨⟨ext++[(e,w++c)],?_,?_,λp g=>?_,?_⟩,?_,λy f=>?_⟩
  ·show s.1++[(e,D.str (w++c))]=_
   rw[n,Xb,List.append_assoc];rfl
  ·show s.2++[l6 e]=_
   rw[m,Xb];rfl
  ·rcases WY.mp g with z | z
   ·exact l p z
   ·rw[Wh.mp z]
    exact⟨h0,r,by rw[str_len,q,yE j],x,w,i,c,o,u,j,rfl⟩
  ·show(i8 (s.1++[(e,D.str (w++c))])).Nodup
   rw[d,List.nodup_append];refine⟨nd,by simp,λa A b v=>?_⟩;rw[Wh.mp v];exact λz=>t (z ▸ A)
  ·show e∈i8 (s.1++[(e,D.str (w++c))])
   rw[d];simp
  ·show y∈i8 (s.1++[(e,D.str (w++c))])
   rw[d];exact Xm _ f
 ·rw[Wu h]
  refine⟨⟨ext,n,m,l,nd⟩,?_,λy f=>f⟩;exact Classical.byContradiction λz=>h (by rw[vp.mpr z];rfl)
theorem Hz{L:Nat}(c:(x,D.str w)∈k)(d:w.length=L)(f:∀e∈go x,True/\e∈bx):∀(l:List (Ky×Str)) (s:KI×LD),(∀q∈l,∃i:Nat,(go x)[i]?=some q.1/\vk[i]?=some q.2)->RE k L bx go s ->
  RE k L bx go (l.foldl (rV w) s)/\(∀q∈l,q.1∈i8 (l.foldl (rV w) s).1)/\∀y∈i8 s.1,y∈i8 (l.foldl (rV w) s).1
 | [],s,_,hE=>⟨hE,λq a=>Wz a (by simp),λy b=>b⟩
 | (e,pr)::l,s,hl,hE=>by
  obtain⟨i,h1,j⟩:=hl (e,pr) Ws;obtain⟨h0,h⟩:=f e (Wi h1);obtain⟨a1,a2,a3⟩:=MT hE c d h1 j h0 h;obtain⟨b1,b2,g⟩:=Hz c d f l _ (λq a=>hl q (Wt _ a)) a1;refine⟨b1,λq a=>?_,λy b=>g y (a3 y b)⟩;rcases Wo.mp a with z | z
  ·rw[z];exact g e a2
  ·exact b2 q z
theorem HJ{L:Nat}(nd:(i8 k).Nodup):∀(xs:List Ky) (s:KI×LD),(∀x∈xs,(go x).length=6/\(∀e∈go x,True/\e∈bx)/\∃w,(x,D.str w)∈k/\w.length=L)->RE k L bx go s ->
  RE k L bx go (xs.foldl (sN go) s)/\(∀x∈xs,∀e∈go x,e∈i8 (xs.foldl (sN go) s).1)/\∀y∈i8 s.1,y∈i8 (xs.foldl (sN go) s).1
 | [],s,_,hE=>⟨hE,λx c=>Wz c (by simp),λy a=>a⟩
 | x::xs,s,h,hE=>by
  obtain⟨A,t,w,c,r⟩:=h x Ws
  have b:rq s.1 x=some (.str w):=by
   obtain⟨ext,v,_,_,_⟩:=hE;rw[v];exact wC (wJ nd c)
  have g:zx s.1 x=w:=by unfold zx;rw[b]
  have hz:∀q∈(go x).zip vk,∃i:Nat,(go x)[i]?=some q.1/\vk[i]?=some q.2:=λq u=>by
   obtain⟨i,d⟩:=List.getElem?_of_mem u;obtain⟨p,o⟩:=List.getElem?_zip_eq_some.mp d;exact⟨i,p,o⟩
  obtain⟨a1,a2,a3⟩:=Hz c r t ((go x).zip vk) s hz hE;have es:sN go s x=((go x).zip vk).foldl (rV w) s:=by unfold sN;rw[g]
  rw[<- es] at a1 a2 a3;obtain⟨b1,b2,n⟩:=HJ nd xs (sN go s x) (λy a=>h y (Wt _ a)) a1;refine⟨b1,λy a e m=>?_,λy a=>n y (a3 y a)⟩;rcases Wo.mp a with z | z
  ·subst z
   obtain⟨i,d⟩:=List.getElem?_of_mem m;have l:i<6:=by have:=(Wm.mp d).1;omega
   obtain⟨f,j⟩:∃f,vk[i]?=some f:=⟨_,List.getElem?_eq_getElem (show i<vk.length from l)⟩
   exact n e (a2 (e,f) (Wi (List.getElem?_zip_eq_some.mpr ⟨d,j⟩)))
  ·exact b2 y z e m
structure BI (go:Ky->List Ky) (bx:List Ky) (s:Ky) (kv:KI) (xs:List Ky) (L:Nat):Prop where
 nd:(i8 kv).Nodup
 val:∀p∈kv,True/\p.1∈bx/\∃w,p.2=.str w/\w.length<=L
 st:(s,D.str (oS ""))∈kv
 new:∀x∈xs,∃w,(x,D.str w)∈kv/\w.length=L
 xl:xs.length<=kv.length
 cl:∀x w,(x,D.str w)∈kv->x∉xs->∀e∈go x,∃v,(e,D.str v)∈kv/\v.length<=w.length+1
 tr:∀x w,(x,D.str w)∈kv->(x=s/\w=oS "")\/∃(y:Ky) (v:Str) (i:Nat) (pr:Str),(y,D.str v)∈kv/\(go y)[i]?=some x/\vk[i]?=some pr/\w=v++pr
def vA(h:x∈i8 kv):∃d,(x,d)∈kv:=by
 obtain⟨p,a,rfl⟩:=List.mem_map.mp h;exact⟨p.2,a⟩
def BI.inj{L:Nat}(h:BI go bx s kv xs L)(h1:(x,D.str v)∈kv)(a:(x,D.str w)∈kv):v=w:=by
 have:=(wJ h.nd h1).symm.trans (wJ h.nd a);injection this with z
 injection z
def BI.len{L:Nat}(h:BI go bx s kv xs L):kv.length<=bx.length:=by
 have b:(i8 kv).length<=bx.length:=List.Nodup.length_le_of_subset h.nd λx a=>by
  obtain⟨d,hd⟩:=vA a;exact(h.val _ hd).2.1
 simpa [i8] using b
def BI.step{L:Nat}(h:BI go bx s kv xs L)(H:∀x:Ky,x∈bx->(go x).length=6/\∀e∈go x,True/\e∈bx) :
  ∃fd:List Ky,(xs.foldl (sN go) (kv,[])).2=fd.map l6/\BI go bx s (xs.foldl (sN go) (kv,[])).1 fd (L+1)/\(fd ≠ []->kv.length<(xs.foldl (sN go) (kv,[])).1.length):=by
 have B:∀x∈xs,(go x).length=6/\(∀e∈go x,True/\e∈bx)/\∃w,(x,D.str w)∈kv/\w.length=L:=λx B=>by
  obtain⟨w,r,m⟩:=h.new x B;obtain⟨h0,k,_⟩:=h.val _ r;obtain⟨U,T⟩:=H x k;exact⟨U,T,w,r,m⟩
 obtain⟨⟨ext,X,W,t,nd⟩,S,Y⟩:=HJ h.nd xs (kv,[]) B ⟨[],by simp,rfl,λp j=>Wz j (by simp),h.nd⟩;generalize (xs.foldl (sN go) (kv,[])).1=kv' at *
 generalize (xs.foldl (sN go) (kv,[])).2=fd' at *
 subst X W;have f:∀{p:Ky×D},p∈kv->p∈kv++ext.map Lm:=λj=>Xm _ j
 have c:∀{x:Ky} {w:Str},(x,D.str w)∈kv++ext.map Lm->(x,D.str w)∈kv\/(x,w)∈ext:=λ{x w} n=>by
  rcases WY.mp n with z | z
  ·exact .inl z
  ·obtain⟨p,j,P⟩:=List.mem_map.mp z
   unfold Lm at P;injection P with a b
   injection b with b
   subst a b;exact .inr j
 refine⟨ext.map (·.1),by rw[List.map_map];rfl,⟨nd,λp j=>?_,f h.st,λx A=>?_,?_,λx w n k e N=>?_,λx w n=>?_⟩,λG=>?_⟩
 ·rcases WY.mp j with z | z
  ·obtain⟨h0,k,w,r,m⟩:=h.val p z
   exact⟨h0,k,w,r,by omega⟩
  ·obtain⟨q,l,rfl⟩:=List.mem_map.mp z
   obtain⟨h0,k,m,_⟩:=t q l;exact⟨h0,k,q.2,rfl,by omega⟩
 ·obtain⟨q,l,rfl⟩:=List.mem_map.mp A
  exact⟨q.2,WN _ (List.mem_map.mpr ⟨q,l,rfl⟩),(t q l).2.2.1⟩
 ·simp
 ·rcases c n with z | z
  ·by_cases g:x∈xs
   ·obtain⟨d,hd⟩:=vA (S x g e N)
    obtain⟨Q,C,o⟩:=h.new x g;have:w=Q:=h.inj z C;rcases WY.mp hd with y | y
    ·obtain⟨_,_,v,F,m⟩:=h.val _ y
     have E:d=.str v:=F;subst E;exact⟨v,hd,by rw[this,o];omega⟩
    ·obtain⟨q,l,O⟩:=List.mem_map.mp y
     have M:d=.str q.2:=by unfold Lm at O;injection O with _ b;exact b.symm
     subst M;exact⟨q.2,hd,by rw[(t q l).2.2.1,this,o];omega⟩
   ·obtain⟨v,F,m⟩:=h.cl x w z g e N
    exact⟨v,f F,m⟩
  ·exact Wz (List.mem_map.mpr ⟨(x,w),z,rfl⟩) k
 ·rcases c n with z | z
  ·rcases h.tr x w z with a | ⟨y,v,i,u,h1,K,J,I⟩
   ·exact .inl a
   ·exact .inr ⟨y,v,i,u,f h1,K,J,I⟩
  ·obtain⟨_,_,_,y,v,i,u,h1,K,J,I⟩:=t (x,w) z
   exact .inr ⟨y,v,i,u,f h1,K,J,I⟩
 ·rw[WB,V9]
  have:ext ≠ []:=λz=>G (by rw[z];rfl)
  have:0<ext.length:=List.length_pos_iff.mpr this;omega
def rG{a:Type}[DecidableEq a](sn:List a)(e:a):List a:=if e∈sn then sn else sn++[e]
def sH{a:Type}[DecidableEq a](go:a->List a)(sn:List a)(x:a):List a:=(go x).foldl rG sn
inductive EL {α:Type} (pr:List α->α->List α):List α->Nat->List α->Prop
 | done {sn:List α} {i:Nat}:sn.length<=i->EL pr sn i sn
 | step {sn r:List α} {i:Nat}:i<sn.length->EL pr ((sn.drop i).foldl pr sn) sn.length r->EL pr sn i r
def IH(w:Str)(s:KI×LD)(a:Ky×Str):i8 (rV w s a).1=rG (i8 s.1) a.1:=by
 unfold rV rG;by_cases h:a.1∈i8 s.1
 ·rw[Wc h,Wu (λz=>vp.mp (Option.isNone_iff_eq_none.mp z) h)]
 ·rw[Wu h,Wc (by rw[vp.mpr h];rfl)]
  simp[i8]
theorem AR(w:Str):∀(l:List (Ky×Str)) (s:KI×LD),i8 (l.foldl (rV w) s).1=(l.map (·.1)).foldl rG (i8 s.1)
 | [],_=>rfl
 | e::l,s=>by rw[List.foldl_cons,AR w l,IH];rfl
def IB(h:(go x).length=6):i8 (sN go s x).1=sH go (i8 s.1) x:=by
 unfold sN sH;rw[AR,List.map_fst_zip (by rw[h];exact Wl _)]
theorem AA:∀(xs:List Ky) (s:KI×LD),(∀x∈xs,(go x).length=6)->i8 (xs.foldl (sN go) s).1=xs.foldl (sH go) (i8 s.1)
 | [],_,_=>rfl
 | x::xs,s,h=>by rw[List.foldl_cons,AA xs _ λy a=>h y (Wt _ a),IB (h x Ws)];rfl
def GI(w:Str)(s:KI×LD)(a:Ky×Str):∃F:List Ky,i8 (rV w s a).1=i8 s.1++F/\(rV w s a).2=s.2++F.map l6:=by
 unfold rV;split
 ·exact⟨[a.1],by simp[i8],rfl⟩
 ·exact⟨[],by simp,by simp⟩
theorem zC(w:Str):∀(l:List (Ky×Str)) (s:KI×LD),∃F:List Ky,i8 (l.foldl (rV w) s).1=i8 s.1++F/\(l.foldl (rV w) s).2=s.2++F.map l6
 | [],s=>⟨[],by simp,by simp⟩
 | e::l,s=>by
  obtain⟨b,a1,a2⟩:=GI w s e;obtain⟨a,b1,b2⟩:=zC w l (rV w s e);exact⟨b++a,by rw[List.foldl_cons,b1,a1,List.append_assoc],by rw[List.foldl_cons,b2,a2,List.append_assoc,Xb]⟩
theorem zv:∀(xs:List Ky) (s:KI×LD),∃F:List Ky,i8 (xs.foldl (sN go) s).1=i8 s.1++F/\(xs.foldl (sN go) s).2=s.2++F.map l6
 | [],s=>⟨[],by simp,by simp⟩
 | x::xs,s=>by
  obtain⟨b,a1,a2⟩:=zC (zx s.1 x) ((go x).zip vk) s;obtain⟨a,b1,b2⟩:=zv xs (sN go s x);refine⟨b++a,?_,?_⟩
  ·rw[List.foldl_cons,b1];unfold sN;rw[a1,List.append_assoc]
  ·rw[List.foldl_cons,b2];unfold sN;rw[a2,List.append_assoc,Xb]
def KN(h:l6 a=l6 b):a=b:=by
 have:=congrArg zK h;rw[xV,xV] at this;exact Wq this
theorem Ca:∀{a b:List Ky},a.map l6=b.map l6->a=b
 | [],[],_=>rfl
 | [],_::_,h=>by cases h
 | _::_,[],h=>by cases h
 | x::a,y::b,h=>by
  rw[Ww,Ww] at h;injection h with h1 h2
  rw[KN h1,Ca h2]
theorem Ck(a:∀x∈bx,x.isLeft=lf)(r:bx.length<=64)(b:∀x:Ky,x∈bx->(go x).length=6/\∀e∈go x,True/\e∈bx)(E:True):∀(m:Nat) (xs:List Ky) (kv:KI) (L:Nat),BI go bx s kv xs L->L+m<=100->(xs ≠ []->bx.length+2<=m+kv.length)->1<=m->∀P:List Ky,i8 kv=P++xs ->
  ∃g n,(∀c,(∀x:Ky,x∈bx->Gives c go x)->∀d,EW ae c m (xs.map l6) d kv=some g)/\BI go bx s g [] n/\n<=100/\EL (sH go) (i8 kv) P.length (i8 g)
 | 0,_,_,_,_,_,_,h,_,_=>Wz h (by decide)
 | m+1,[],kv,L,h,qX,_,_,P,hP=>⟨kv,L,λc _ d=>rfl,h,by omega,.done (by rw[hP];simp)⟩
 | m+1,x::xs,kv,L,h,qX,B,_,P,hP=>by
  have B:=B (by simp);obtain⟨fd,G,h',q⟩:=h.step b;have C:=h.len;have i:=h.xl
  have H:∀c,(∀x:Ky,x∈bx->Gives c go x)->∀d,ae [.obj 1 d [] [],.lst ((x::xs).map l6),c] d kv=some (.lst (fd.map l6),((x::xs).foldl (sN go) (kv,[])).1):=λc l d=>by
   rw[<- G];refine LK (lf:=lf) ⟨λz=>by rw[z] at i;simp at i,λp I=>a _ (h.val p I).2.1⟩ (λy o=>?_) (by omega);obtain⟨w,k,O⟩:=h.new y o;obtain⟨h0,t,_⟩:=h.val _ k;exact⟨⟨l y t,a y t,λe K=>a e ((b y t).2 e K).2⟩,w,wJ h.nd k,by omega⟩
  have v:=h'.len
  have f:i8 ((x::xs).foldl (sN go) (kv,[])).1=i8 kv++fd:=by
   obtain⟨F,a1,a2⟩:=zv (go:=go) (x::xs) (kv,[]);rw[G,Xr] at a2;rw[a1,Ca a2]
  have A:=AA (go:=go) (x::xs) (kv,[]) λy o=>(b y (let ⟨w,k,_⟩:=h.new y o;(h.val _ k).2.1)).1
  obtain⟨g,n,J,N,M,u⟩:=Ck a r b trivial m fd _ (L+1) h' (by omega) (λz=>by have:=q z;omega) (by omega) (i8 kv) f
  have j:EL (sH go) (i8 kv) P.length (i8 g):=by
   refine .step (by rw[hP];simp) ?_;rw[show(i8 kv).drop P.length=x::xs by rw[hP];simp,<- A];exact u
  refine⟨g,n,λc l d=>?_,N,M,j⟩;show(ae [.obj 1 d [] [],.lst ((x::xs).map l6),c] d kv).bind _=_;rw[H c l d];exact J c l d
def Ao(i:∀x∈bx,x.isLeft=lf)(g:bx.length<=64)(n:s∈bx)(j:∀x:Ky,x∈bx->(go x).length=6/\∀e∈go x,True/\e∈bx) :
  ∃f l,(∀c,(∀x:Ky,x∈bx->Gives c go x)->∀d,EW ae c 100 [l6 s] d [(s,.str (oS ""))]=some f)/\BI go bx s f [] l/\l<=100/\EL (sH go) [s] 0 (i8 f):=by
 have k:(oS "").length=0:=by decide +kernel
 refine Ck i g j trivial 100 [s] [(s,.str (oS ""))] 0 ⟨by simp[i8],λp o=>?_,Ws,λx m=>?_,Wl _,λx w h q=>?_,λx w h=>?_⟩ (by decide) (λ_=>by simp;omega) (by decide) [] rfl
 ·rw[Wh.mp o];exact⟨trivial,n,_,rfl,by rw[k];exact Wl _⟩
 ·rw[Wh.mp m];exact⟨_,Ws,k⟩
 ·have z:=Wh.mp h
  injection z with a b
  exact Wz (by rw[a];exact Ws) q
 ·have z:=Wh.mp h
  injection z with a b
  injection b with b
  exact .inl ⟨a,b⟩
def gL:R->V3 Out:=
 (xT ae 4 0 1 (.str (oS "")))
def ag:LD->OD:=via 2 4 gL
def iD:R->V3 Out:=
 (i5 (vj ag Hx (b8 (b9 1) d4) (wo [0])))
def bP:LD->OD:=via 2 2 iD
def nG:R->V3 Out:=
 (i5 (d3 tu (b8 (d3 Ds (b8 (d3 bP (b8 (b9 0) (b8 (kI 0) d4))) d4)) d4)))
def cD:LD->OD:=via 1 1 nG
def nH:R->V3 Out:=
 (i5 (l9 (b8 (d6 e8 (b9 0) (kI 0)) (b8 (d6 e8 (b9 0) (kI 1)) d4))))
def aY:LD->OD:=via 1 1 nH
def jc:R->V3 Out:=
 (i5 (uh 1 (qU (d6 e8 (b9 0) (kI 2))) (setAt 0) rF (d6 e8 (b9 0) (kI 0))))
def ak:LD->OD:=via 1 1 jc
def jg:R->V3 Out:=
  (i4 (uG (i9 uq (d3 aY (b8 (b9 0) d4)) (d3 aY (b8 (b9 1) d4)))
  (i5 (x3 (b8 (kS "") d4)))
  qZ)
  (i5 (uh 1 (rj (d3 rY (b8 (λ_=>some ao) d4))) (setAt 0) (i9 EE (d6 e8 (d3 ak (b8 (b9 1) d4)) (b9 0)) (d6 e8 (d3 ak (b8 (b9 2) d4)) (b9 0))) (d6 e8 (λ_=>some ao) (b9 0)))))
def be:LD->OD:=via 2 2 jg
def mJ:R->V3 Out:=
  (i4 (i7 (vj ag HI (b8 (l9 (b8 (kI 0) (b8 (kI 0) d4))) d4) (wo [1,0])) (setAt 2))
  (Ft 4 d4
  (uj (A3 (A6 (b9 2)) (setAt 3)
  (y8 4 (uh 1 (qU (d3 be (b8 (d6 e8 (d6 e8 (b9 0) (kI 2)) (d6 e8 (b9 3) (kI 0))) (b8 (d6 e8 (d6 e8 (b9 1) (kI 2)) (d6 e8 (b9 3) (kI 1))) d4)))) (setAt 0) rF (d6 n6 (d6 Lo (b9 3) (b9 4)) (b9 0)))))
  (wn (i5 (d3 zy (b8 (b9 4) d4)))))))
def bZ:LD->OD:=via 2 5 mJ
def iN:R->V3 Out:=
 (i5 (zJ (i9 xZ (d3 bZ (b8 (b9 0) (b8 (b9 1) d4))) (λ_=>some .non))))
def ax:LD->OD:=via 2 2 iN
def fF:R->V3 Out:=
 (i5 (uh 1 (qU (b9 0)) (setAt 0) rF (d3 A9 (b8 (b9 1) (b8 (b9 0) d4)))))
def aw:LD->OD:=via 1 1 fF
def cN:R->V3 Out:=
 (i5 (d3 aw (b8 (uh 1 (rj (d3 rY (b8 (b9 0) d4))) (setAt 0) rF (l9 (b8 (d6 e8 (b9 2) (b9 0)) (b8 (d3 af (b8 (d6 e8 (b9 1) (b9 0)) (b8 (b9 2) d4))) d4)))) d4)))
def au:LD->OD:=via 2 2 cN
def fQ:R->V3 Out:=
  (i4 (i7 (d3 aw (b8 (uh 1 (qU (b9 0)) (setAt 0) rF (l9 (b8 (d3 aY (b8 (b9 0) d4)) (b8 (d3 ak (b8 (b9 0) d4)) d4)))) d4)) (setAt 1))
  (i4 (i7 (d3 au (b8 (b9 0) (b8 (b9 1) d4))) (setAt 2))
  (i4 (DQ (i9 uq (b9 2) (b9 1))
  (i4 (i7 (b9 2) (setAt 1))
  (i7 (d3 au (b8 (b9 0) (b8 (b9 1) d4))) (setAt 2))) 20)
  (i5 (b9 1)))))
def bU:LD->OD:=via 1 3 fQ
def lG:R->V3 Out:=
  (i4 (i7 (uh 1 (qU (d6 e8 (b9 0) (kI 2))) (setAt 0) rF (l9 (b8 (d6 e8 (b9 0) (kI 0)) (b8 (d3 uE (b8 (b9 3) (b8 (d6 e8 (b9 2) (d6 e8 (b9 0) (kI 1))) d4))) d4)))) (setAt 3))
  (i5 (l9 (b8 (d6 e8 (b9 0) (kI 0)) (b8 (d6 e8 (b9 0) (kI 1)) (b8 (d3 tu (b8 (b9 3) d4)) d4))))))
def cz:LD->OD:=via 3 4 lG
def mQ:R->V3 Out:=
  (i4 (i7 (d6 e8 (b9 0) (kI 2)) (setAt 1))
  (i4 (i7 (d3 bU (b8 (b9 1) d4)) (setAt 2))
  (i4 (i7 (d3 Dr (b8 (vj ag Gv (b8 (kI 0) d4) (wo [1,2])) d4)) (setAt 3))
  (i5 (l9 (b8 (d6 e8 (b9 0) (kI 0)) (b8 (d6 e8 (b9 0) (kI 1)) (b8 (d3 tu (b8 (uh 1 (qU (b9 3)) (setAt 0) rF (d3 cz (b8 (d6 e8 (b9 2) (b9 0)) (b8 (b9 3) (b8 (b9 4) d4))))) d4)) d4))))))))
def aJ:LD->OD:=via 1 4 mQ
def nE:R->V3 Out:=
  (i4 (i7 (l9 (b8 (kI 0) (b8 (kI 0) (b8 (λ_=>some (.bl false)) d4)))) (setAt 1))
  (i4 (i7 (l9 (b8 (kI 0) (b8 (λ_=>some (.bl false)) (b8 (l9 d4) d4)))) (setAt 2))
  (i4 (i7 (l9 (b8 (kI 0) (b8 (kI 0) (b8 (kI 0) (b8 (λ_=>some (.bl false)) d4))))) (setAt 3))
  (i5 (l9 (b8 (kI 0) (b8 (kI 0) (b8 (b9 1) (b8 (b9 2) (b8 (b9 3) (b8 (kI 0) (b8 (λ_=>some .non) (b8 (kI 0) d4)))))))))))))
def eO:LD->OD:=via 1 4 nE
def jN(b:D):eO [b]=some qN.d:=k6 ((i6 (qO rfl rfl)).trans ((i6 (qO rfl rfl)).trans ((i6 (qO rfl rfl)).trans (retS rfl))))
def jZ:R->V3 Out:=
 (i5 (Ha (tQ (d6 e8 (b9 0) (kI 1))) (l9 (b8 (d6 n6 (d6 e8 (b9 0) (kI 0)) (b9 1)) (b8 (λ_=>some (.bl true)) (b8 (d6 e8 (b9 0) (kI 2)) d4)))) (b9 0)))
def dO:LD->OD:=via 2 2 jZ
def kt(s:WS)(n:Int):dO [s.lapsD,.int n]=some (.tup [.int (sC s n),.bl s.lr,.tup (s.lk.map .int)]):=by
 have e:sC s n=if s.lr then s.lm+n else s.lm:=rfl
 rw[e];have t:tQ (d6 e8 (b9 0) (kI 1)) [some s.lapsD,some (.int n)]=some s.lr:=Em (i3 rfl rfl (Ua s));cases a:s.lr with
 | false =>
  rw[a] at t;have q:s.lapsD=.tup [.int s.lm,.bl false,.tup (s.lk.map .int)]:=by rw[<- a];rfl
  exact(k6 (retS (Od t rfl))).trans (congrArg some q)
 | true =>
  rw[a] at t;exact k6 (retS (Oc t (tupS (qM (i3 (i3 rfl rfl (SR s)) rfl rfl) (qM rfl (qM (i3 rfl rfl (Ta s)) rfl))))))
def iY:R->V3 Out:=
  (i4 (uG (yn (tQ (d6 e8 (b9 0) (kI 3))))
  (i5 (b9 0))
  qZ)
  (i4 (i7 (d3 DY (b8 (kI 0) (b8 (d6 uZ (d6 e8 (b9 0) (kI 2)) (b9 1)) d4))) (setAt 2))
  (i5 (l9 (b8 (d6 e8 (b9 0) (kI 0)) (b8 (d6 e8 (b9 0) (kI 1)) (b8 (b9 2) (b8 (zJ (i9 FT (b9 2) (kI 0))) d4))))))))
def c_:LD->OD:=via 2 3 iY
def ja(s:WS)(n:Int):c_ [s.countD,.int n]=some (.tup [.int s.cm,.int s.cs,.int (rD s n),.bl (runsOn s n)]):=by
 have d:rD s n=if s.cr then mx 0 (s.cl - n) else s.cl:=rfl
 have c:runsOn s n=(s.cr&&decide (0<mx 0 (s.cl - n))):=rfl;rw[d,c];have t:tQ (d6 e8 (b9 0) (kI 3)) [some s.countD,some (.int n),none]=some s.cr:=Em (i3 rfl rfl (UQ s));cases a:s.cr with
 | false =>
  rw[a] at t;have q:s.countD=.tup [.int s.cm,.int s.cs,.int s.cl,.bl false]:=by rw[<- a];rfl
  exact(k6 (um ((yU (Et (b:=false) t)).trans (retS rfl)))).trans (congrArg some q)
 | true =>
  rw[a] at t;exact k6 ((i6 ((v5 (Et (b:=true) t)).trans rfl)).trans ((i6 (qO (d8 (qM rfl (qM (i3 (i3 rfl rfl (TR s)) rfl rfl) rfl)) (R4 _ _)) rfl)).trans (retS (tupS (qM (i3 rfl rfl (Su s)) (qM (i3 rfl rfl (Ss s)) (qM rfl (qM (HU (si rfl rfl rfl)) rfl))))))))
def gC:R->V3 Out:=
  (i4 (i7 (d6 e8 (b9 0) (λ_=>some aN)) (setAt 1))
  (i4 (uG (yn (tQ (d6 e8 (b9 1) (kI 2))))
  (i5 (λ_=>some .non))
  qZ)
  (i4 (i7 (d6 n6 (d6 wx (kI 3600) (d6 e8 (b9 1) (kI 0))) (d6 wx (kI 60) (d6 e8 (b9 1) (kI 1)))) (setAt 2))
  (i5 (d6 n6 (d6 rn (d6 uZ (d6 uZ (b9 2) (d6 e8 (b9 0) (λ_=>some aG))) (kI 1)) (λ_=>some fH)) (kI 1))))))
def az:LD->OD:=via 1 3 gC
def dA(s:WS):az [s.d]=some (rN (qT s)):=by
 have a:=Sn s;unfold qT;cases c:s.aon<;>rw[c] at a
 ·exact k6 ((i6 (qO (i3 rfl rfl (w2 s)) rfl)).trans (um ((yU (Et (b:=false) (Em (i3 rfl rfl a)))).trans (retS rfl))))
 ·exact k6 ((i6 (qO (i3 rfl rfl (w2 s)) rfl)).trans ((i6 (v5 (Et (b:=true) (Em (i3 rfl rfl a))))).trans ((i6 (qO (i3 (i3 rfl (i3 rfl rfl (SD s)) (NM _)) (i3 rfl (i3 rfl rfl (Se s)) (Po _)) rfl) rfl)).trans (retS (i3 (i3 (i3 (i3 rfl (i3 rfl rfl (w1 s)) rfl) rfl rfl) rfl (modS (by decide))) rfl rfl)))))
def gH:R->V3 Out:=
  (i4 (i7 (d6 e8 (b9 0) (λ_=>some aA)) (setAt 1))
  (i5 (Ha (tQ (d6 e8 (b9 1) (kI 3))) (d6 e8 (b9 1) (kI 2)) (λ_=>some .non))))
def aL:LD->OD:=via 1 2 gH
def dg(s:WS):aL [s.d]=some (rN (qR s)):=by
 have a:=UQ s;unfold qR;cases b:s.cr<;>rw[b] at a
 ·exact k6 ((i6 (qO (i3 rfl rfl (w4 s)) rfl)).trans (retS (Od (Em (i3 rfl rfl a)) rfl)))
 ·exact k6 ((i6 (qO (i3 rfl rfl (w4 s)) rfl)).trans (retS (Oc (Em (i3 rfl rfl a)) (i3 rfl rfl (TR s)))))
def ij:R->V3 Out:=
  (i4 (i7 (d3 az (b8 (b9 0) d4)) (setAt 2))
  (i4 (i7 (d3 aL (b8 (b9 0) d4)) (setAt 3))
  (Ft 4 d4
  (uj (MM (BQ (i9 uQ (b9 2) (λ_=>some .non)) (i9 F_ (b9 2) (b9 1)))
  (Au 4 (d6 uZ (b9 1) (d6 rn (d6 uZ (b9 1) (b9 2)) (λ_=>some fH))))
  zr)
  (uj (MM (BQ (i9 uQ (b9 3) (λ_=>some .non)) (i9 F_ (b9 3) (b9 1)))
  (Au 4 (b9 3))
  zr)
  (wn (i5 (d3 Cq (b8 (b9 4) d4)))))))))
def cA:LD->OD:=via 2 5 ij
def Ib(n:Int)(o:V3 Int):LD:=match o with
 | some a=>if a<=n then [.int (n - (n - a)%86400)] else []
 | none=>[]
def O8(n:Int)(o:V3 Int):LD:=match o with
 | some c=>if c<=n then [.int c] else []
 | none=>[]
def Qw(s:WS)(n:Int):Cq [.lst (Ib n (qT s)++O8 n (qR s))]=some (rN (vm s n)):=by
 unfold vm;cases qT s<;>cases qR s
 ·rfl
 ·rename_i c;by_cases h:c<=n<;>simp[Ib,O8,h,rN]
 ·rename_i a;by_cases h:a<=n<;>simp[Ib,O8,h,rN]
 ·rename_i a c;by_cases h:a<=n<;>by_cases h':c<=n<;>simp[Ib,O8,h,h',rN,mx]
def Pf(h:p ρ ds=some (.nx ρ2,a)):uj p q ρ ds=q ρ2 a:=by simp[h]
def NP(h:c ρ=some true):MM c p q ρ ds=p ρ ds:=by simp[h]
def LH(h:c ρ=some false):MM c p q ρ ds=q ρ ds:=by simp[h]
def iR(s:WS)(n:Int):cA [s.d,.int n]=some (rN (vm s n)):=by
 have o:=dA s;have m:=dg s;rw[<- Qw];generalize qT s=a at *
 generalize qR s=c at *
 have f:0<sizeLine:=by decide
 have e:1<sizeLine:=by decide
 have k:i7 (d3 az (b8 (b9 0) d4)) (setAt 2) [some s.d,some (.int n),none,none,none]=some (.nx [some s.d,some (.int n),some (rN a),none,none]):=by
  show(az [s.d]).bind _=_;rw[o];rfl
 have j:i7 (d3 aL (b8 (b9 0) d4)) (setAt 3) [some s.d,some (.int n),some (rN a),none,none]=some (.nx [some s.d,some (.int n),some (rN a),some (rN c),none]):=by
  show(aL [s.d]).bind _=_;rw[m];rfl
 have i:MM (BQ (i9 uQ (b9 2) (λ_=>some .non)) (i9 F_ (b9 2) (b9 1))) (Au 4 (d6 uZ (b9 1) (d6 rn (d6 uZ (b9 1) (b9 2)) (λ_=>some fH)))) zr [some s.d,some (.int n),some (rN a),some (rN c)] []=some (.nx [some s.d,some (.int n),some (rN a),some (rN c)],Ib n a):=by
  cases a with
  | none=>rfl
  | some a =>
   show _=some (Out.nx _,if a<=n then _ else _);by_cases h:a<=n
   ·rw[NP (dT h),Wc h]
    show(if 4=4/\0<sizeLine then _ else none)=_;rw[Wc ⟨rfl,f⟩];rfl
   ·rw[LH (dF h),Wu h];rfl
 have l:(Ib n a).length<=1:=by
  unfold Ib;split
  ·split<;>simp
  ·simp
 have b:(Ib n a).length<sizeLine:=Xg l e
 have g:MM (BQ (i9 uQ (b9 3) (λ_=>some .non)) (i9 F_ (b9 3) (b9 1))) (Au 4 (b9 3)) zr [some s.d,some (.int n),some (rN a),some (rN c)] (Ib n a)=some (.nx [some s.d,some (.int n),some (rN a),some (rN c)],Ib n a++O8 n c):=by
  cases c with
  | none=>show some _=_;rw[show O8 n none=[] from rfl,WT]
  | some c =>
   show _=some (Out.nx _,Ib n a++if c<=n then _ else _);by_cases h:c<=n
   ·rw[NP (dT h),Wc h]
    show(if 4=4/\(Ib n a).length<sizeLine then _ else none)=_;rw[Wc ⟨rfl,b⟩];rfl
   ·rw[LH (dF h),Wu h,WT];rfl
 show rm (i4 (i7 (d3 az (b8 (b9 0) d4)) (setAt 2)) _ [some s.d,some (.int n),none,none,none])=_;rw[i6 k,i6 j];show rm (uj (MM (BQ (i9 uQ (b9 2) (λ_=>some .non)) (i9 F_ (b9 2) (b9 1))) (Au 4 (d6 uZ (b9 1) (d6 rn (d6 uZ (b9 1) (b9 2)) (λ_=>some fH)))) zr) _ [some s.d,some (.int n),some (rN a),some (rN c)] [])=_;rw[Pf i,Pf g];show rm ((Cq [.lst (Ib n a++O8 n c)]).map .rt)=_;cases Cq [.lst (Ib n a++O8 n c)]<;>rfl
def j2:R->V3 Out:=
  (i4 (i7 (d3 cA (b8 (b9 0) (b8 (b9 1) d4))) (setAt 2))
  (i4 (uG (i9 xZ (b9 2) (λ_=>some .non))
  (i5 (d3 DY (b8 (kI 0) (b8 (d6 uZ (d6 e8 (b9 0) (λ_=>some dE)) (b9 1)) d4))))
  qZ)
  (i5 (d3 DY (b8 (kI 0) (b8 (d6 uZ (λ_=>some en) (d6 uZ (b9 1) (b9 2))) d4))))))
def dR:LD->OD:=via 2 3 j2
def kw(s:WS)(n:Int):dR [s.d,.int n]=some (.int (sY s n)):=by
 have e:=iR s n;unfold sY;cases h:vm s n with
 | none =>
  rw[h] at e;exact k6 ((i6 (qO (d8 rfl e) rfl)).trans (um ((yU (si rfl rfl rfl)).trans (retS (d8 (qM rfl (qM (i3 (i3 rfl rfl (w5 s)) rfl rfl) rfl)) (R4 _ _))))))
 | some l =>
  rw[h] at e;exact k6 ((i6 (qO (d8 rfl e) rfl)).trans ((i6 ((v5 (si rfl rfl rfl)).trans rfl)).trans (retS (d8 (qM rfl (qM (i3 rfl (i3 rfl rfl rfl) rfl) rfl)) (R4 _ _)))))
def j7:R->V3 Out:=
  (i4 (uG (Jo (i9 xZ (b9 0) (λ_=>some .non)) (i9 xZ (d6 e8 (b9 0) (kI 1)) (λ_=>some .non)))
  (i5 (b9 0))
  qZ)
  (i5 (l9 (b8 (d6 e8 (b9 0) (kI 0)) (b8 (d6 n6 (d6 e8 (b9 0) (kI 1)) (b9 1)) d4)))))
def dL:LD->OD:=via 2 2 j7
def ku(h:V3 (vv×V3 Int))(n:Int):dL [B9 h,.int n]=some (B9 (sD h n)):=by
 rcases h with _ | ⟨x,_ | k⟩
 ·exact k6 (um ((yU (Ub (si rfl rfl rfl))).trans (retS rfl)))
 ·exact k6 (um ((yU (RM (si rfl rfl rfl) (si (i3 rfl rfl rfl) rfl rfl))).trans (retS rfl)))
 ·exact k6 ((i6 ((v5 (RM (si rfl rfl rfl) (si (i3 rfl rfl rfl) rfl rfl))).trans rfl)).trans (retS (tupS (qM (i3 rfl rfl rfl) (qM (i3 (i3 rfl rfl rfl) rfl rfl) rfl)))))
def eI:R->V3 Out:=
 (i5 (d3 DY (b8 (kI 1) (b8 (d6 uZ (d6 e8 (b9 0) (kI 1)) (d6 e8 (b9 1) (λ_=>some cX))) d4))))
def aV:LD->OD:=via 2 2 eI
def cb(b:Bk)(s:WS):aV [b.d,s.d]=some (.int (ro b s)):=k6 (retS (d8 (qM rfl (qM (i3 (i3 rfl rfl (b1 b)) (i3 rfl rfl (w7 s)) rfl) rfl)) (R4 _ _)))
def kj:R->V3 Out:=
  (i4 (uG (Jo (i9 uQ (d6 e8 (b9 1) (λ_=>some aR)) (λ_=>some .non)) (i9 zo (d6 e8 (b9 0) (kI 1)) (kI 0)))
  (i5 (d6 e8 (b9 1) (λ_=>some cX)))
  qZ)
  (i4 (i7 (d3 aV (b8 (b9 0) (b8 (b9 1) d4))) (setAt 3))
  (i5 (Ha (i9 RW (b9 2) (b9 3)) (d6 n6 (d6 e8 (b9 1) (λ_=>some cX)) (b9 2)) (d6 rn (d6 uZ (b9 2) (b9 3)) (d6 e8 (b9 0) (kI 1)))))))
def dU:LD->OD:=via 3 4 kj
def kn(n:Int)(i:0<=b.back):dU [b.d,s.d,.int n]=some (.int (so b s n)):=by
 have e:=cb b s;have a:=w6 s;have c:=w7 s;unfold so;cases g:s.held with
 | some v =>
  rw[g] at a;rw[Wc (.inl rfl)];exact k6 (um ((yU (Ub (si (i3 rfl rfl a) rfl rfl))).trans (retS (i3 rfl rfl c))))
 | none =>
  rw[g] at a;by_cases h0:b.back=0
  ·rw[Wc (.inr h0)]
   exact k6 (um ((yU (RM (si (i3 rfl rfl a) rfl rfl) (si (i3 rfl rfl (b1 b)) rfl (VA h0)))).trans (retS (i3 rfl rfl c))))
  ·have h:0<b.back:=by omega
   have f:uG (Jo (i9 uQ (d6 e8 (b9 1) (λ_=>some aR)) (λ_=>some .non)) (i9 zo (d6 e8 (b9 0) (kI 1)) (kI 0))) (i5 (d6 e8 (b9 1) (λ_=>some cX))) qZ [some b.d,some s.d,some (.int n),none]=some (.nx [some b.d,some s.d,some (.int n),none]):=
    v5 (RM (si (i3 rfl rfl a) rfl rfl) (si (i3 rfl rfl (b1 b)) rfl (VR h0)))
   rw[Wu (by rintro(z | z);cases z;exact h0 z)];by_cases h1:n<ro b s
   ·rw[Wc h1]
    exact k6 ((i6 f).trans ((i6 (qO (d8 rfl e) rfl)).trans (retS (Oc (si (x:=.int n) (y:=.int (ro b s)) rfl rfl (dT h1)) (i3 (i3 rfl rfl c) rfl rfl)))))
   ·rw[Wu h1]
    exact k6 ((i6 f).trans ((i6 (qO (d8 rfl e) rfl)).trans (retS (Od (si (x:=.int n) (y:=.int (ro b s)) rfl rfl (dF h1)) (i3 rfl (i3 rfl rfl (b1 b)) (modS h))))))
def jX:R->V3 Out:=
 (i5 (l9 (b8 (d6 e8 (b9 1) (λ_=>some bF)) (b8 (d6 rn (d6 n6 (d6 e8 (b9 1) (λ_=>some aG)) (b9 2)) (λ_=>some fH)) (b8 (d6 e8 (b9 1) (λ_=>some aN)) (b8 (d3 dO (b8 (d6 e8 (b9 1) (λ_=>some bD)) (b8 (b9 2) d4))) (b8 (d3 c_ (b8 (d6 e8 (b9 1) (λ_=>some aA)) (b8 (b9 2) d4))) (b8 (d3 dR (b8 (b9 1) (b8 (b9 2) d4))) (b8 (d3 dL (b8 (d6 e8 (b9 1) (λ_=>some aR)) (b8 (b9 2) d4))) (b8 (d3 dU (b8 (b9 0) (b8 (b9 1) (b8 (b9 2) d4)))) d4))))))))))
def cL:LD->OD:=via 3 3 jX
def dN(n:Int)(a:0<=b.back):cL [b.d,s.d,.int n]=some (counted b s n).d:=
 k6 (retS (tupS (qM (i3 rfl rfl (w0 s)) (qM (i3 (i3 (i3 rfl rfl (w1 s)) rfl rfl) rfl rfl) (qM (i3 rfl rfl (w2 s)) (qM (d8 (qM (i3 rfl rfl (w3 s)) rfl) (kt s n)) (qM (d8 (qM (i3 rfl rfl (w4 s)) rfl) (ja s n)) (qM (d8 rfl (kw s n)) (qM (d8 (qM (i3 rfl rfl (w6 s)) rfl) (ku s.held n)) (qM (d8 rfl (kn n a)) rfl))))))))))
def gY:R->V3 Out:=
 (i5 (vy (zJ (i9 FT (d6 e8 (b9 0) (kI 1)) (kI 0))) (vy (zJ (i9 EE (d6 e8 (b9 1) (λ_=>some bF)) (kI 0))) (EZ (d6 e8 (d6 e8 (d6 e8 (b9 0) (kI 2)) (d6 e8 (b9 1) (λ_=>some bF))) (kI 1))))))
def cq:LD->OD:=via 2 2 gY
def ig(w:s.Wk b):cq [b.d,s.d]=some (.bl (sE b s)):=by
 have a:=gK b w.mode;unfold sE;have c1:zJ (i9 FT (d6 e8 (b9 0) (kI 1)) (kI 0)) [some b.d,some s.d]=some (.bl (decide (0<b.back))):=HU (si (i3 rfl rfl (b1 b)) rfl rfl)
 have c:EE (.int (s.mode:Int)) (.int 0)=some (!decide (s.mode=0)):=by
  show some (!((s.mode:Int)==0))=_;cases s.mode<;>rfl
 have c2:zJ (i9 EE (d6 e8 (b9 1) (λ_=>some bF)) (kI 0)) [some b.d,some s.d]=some (.bl (!decide (s.mode=0))):=HU (si (i3 rfl rfl (w0 s)) rfl c);generalize b.modes.getD s.mode default=md at *
 have c3:EZ (d6 e8 (d6 e8 (d6 e8 (b9 0) (kI 2)) (d6 e8 (b9 1) (λ_=>some bF))) (kI 1)) [some b.d,some s.d]=some (.bl !md.stays):=by
  show(d6 e8 _ _ _).bind _=_;rw[i3 (i3 (i3 rfl rfl (b2 b)) (i3 rfl rfl (w0 s)) a) rfl (m1 md)];rfl
 generalize decide (0<b.back)=p at *
 generalize (!decide (s.mode=0))=q at *
 cases p
 ·exact k6 (retS (Jg c1))
 ·cases q
  ·exact k6 (retS (EX c1 (Jg c2)))
  ·exact k6 (retS (EX c1 (EX c2 c3)))
def eD:R->V3 Out:=
 (i5 (d3 DY (b8 (kI 1) (b8 (d6 uZ (d6 e8 (b9 0) (kI 0)) (d6 e8 (d6 e8 (b9 1) (λ_=>some aR)) (kI 1))) d4))))
def bq:LD->OD:=via 2 2 eD
def eG{b:Bk}{s:WS}{x:vv}{k:Int}(h:s.held=some (x,some k)):bq [b.d,s.d]=some (.int (mx 1 (b.hold - k))):=by
 have a:=w6 s;rw[h] at a;exact k6 (retS (d8 (qM rfl (qM (i3 (i3 rfl rfl (b0 b)) (i3 (i3 rfl rfl a) rfl (h1 x (some k))) rfl) rfl)) (R4 _ _)))
def iP:R->V3 Out:=
  (i4 (i7 (d6 e8 (b9 1) (λ_=>some aR)) (setAt 2))
  (i4 (uG (i9 xZ (b9 2) (λ_=>some .non))
  (i5 (Ha (tQ (d3 cq (b8 (b9 0) (b8 (b9 1) d4)))) (d3 aV (b8 (b9 0) (b8 (b9 1) d4))) (λ_=>some .non)))
  qZ)
  (i5 (Ha (i9 xZ (d6 e8 (b9 2) (kI 1)) (λ_=>some .non)) (λ_=>some .non) (d3 bq (b8 (b9 0) (b8 (b9 1) d4)))))))
def bN:LD->OD:=via 2 3 iP
def eB(w:s.Wk b):bN [b.d,s.d]=some (rN (n9 b s)):=by
 have c:=ig w;have g:=cb b s;have a:=w6 s;unfold n9;rcases hs:s.held with _ | ⟨x,_ | k⟩<;>rw[hs] at a
 ·cases e:sE b s<;>rw[e] at c
  ·exact k6 ((i6 (qO (i3 rfl rfl a) rfl)).trans (um ((yU rfl).trans (retS (Od (Em (d8 rfl c)) rfl)))))
  ·exact k6 ((i6 (qO (i3 rfl rfl a) rfl)).trans (um ((yU rfl).trans (retS (Oc (Em (d8 rfl c)) (d8 rfl g))))))
 ·exact k6 ((i6 (qO (i3 rfl rfl a) rfl)).trans ((i6 (v5 rfl)).trans (retS (Oc rfl rfl))))
 ·have f:=eG (b:=b) hs
  exact k6 ((i6 (qO (i3 rfl rfl a) rfl)).trans ((i6 (v5 rfl)).trans (retS (Od rfl (d8 rfl f)))))
def qA:R->V3 Out:=
 (i5 (d6 n6 (d6 n6 (Jp (b9 0) MQ (aP (b9 1))) (l9 (b8 (b9 2) d4))) (Jp (b9 0) (aP (d6 n6 (b9 1) (kI 1))) MQ)))
def ai:LD->OD:=via 3 3 qA
section
variable(a b c d e f g i x:D)
def wa(h:xs.length+j.length<=8):n6 (.tup xs) (.tup j)=some (.tup (xs++j)):=by
 show(if xs.length+j.length<=sizeLine then _ else none)=_;rw[Wc (WD h VO)]
def UJ:ai [.tup [a,b,c,d,e,f,g,i],.int 0,x]=some (.tup [x,b,c,d,e,f,g,i]):=k6 (retS (i3 (i3 (BP rfl rfl rfl rfl) (tupS (qM rfl rfl)) (wa (show 1<=8 by decide))) (BP rfl rfl rfl rfl) (wa (show 8<=8 by decide))))
def UD:ai [.tup [a,b,c,d,e,f,g,i],.int 1,x]=some (.tup [a,x,c,d,e,f,g,i]):=k6 (retS (i3 (i3 (BP rfl rfl rfl rfl) (tupS (qM rfl rfl)) (wa (show 2<=8 by decide))) (BP rfl rfl rfl rfl) (wa (show 8<=8 by decide))))
def put2:ai [.tup [a,b,c,d,e,f,g,i],.int 2,x]=some (.tup [a,b,x,d,e,f,g,i]):=k6 (retS (i3 (i3 (BP rfl rfl rfl rfl) (tupS (qM rfl rfl)) (wa (show 3<=8 by decide))) (BP rfl rfl rfl rfl) (wa (show 8<=8 by decide))))
def put3:ai [.tup [a,b,c,d,e,f,g,i],.int 3,x]=some (.tup [a,b,c,x,e,f,g,i]):=k6 (retS (i3 (i3 (BP rfl rfl rfl rfl) (tupS (qM rfl rfl)) (wa (show 4<=8 by decide))) (BP rfl rfl rfl rfl) (wa (show 8<=8 by decide))))
def UI:ai [.tup [a,b,c,d,e,f,g,i],.int 4,x]=some (.tup [a,b,c,d,x,f,g,i]):=k6 (retS (i3 (i3 (BP rfl rfl rfl rfl) (tupS (qM rfl rfl)) (wa (show 5<=8 by decide))) (BP rfl rfl rfl rfl) (wa (show 8<=8 by decide))))
def Ul:ai [.tup [a,b,c,d,e,f,g,i],.int 5,x]=some (.tup [a,b,c,d,e,x,g,i]):=k6 (retS (i3 (i3 (BP rfl rfl rfl rfl) (tupS (qM rfl rfl)) (wa (show 6<=8 by decide))) (BP rfl rfl rfl rfl) (wa (show 8<=8 by decide))))
def Rh:ai [.tup [a,b,c,d,e,f,g,i],.int 6,x]=some (.tup [a,b,c,d,e,f,x,i]):=k6 (retS (i3 (i3 (BP rfl rfl rfl rfl) (tupS (qM rfl rfl)) (wa (show 7<=8 by decide))) (BP rfl rfl rfl rfl) (wa (show 8<=8 by decide))))
def UY:ai [.tup [a,b,c,d,e,f,g,i],.int 7,x]=some (.tup [a,b,c,d,e,f,g,x]):=k6 (retS (i3 (i3 (BP rfl rfl rfl rfl) (tupS (qM rfl rfl)) (wa (show 8<=8 by decide))) (BP rfl rfl rfl rfl) (wa (show 8<=8 by decide))))
end
def Vd(s:WS)(m:Nat):ai [s.d,.int 0,.int (m:Int)]=some {s with mode:=m}.d:=UJ ..
def UR(s:WS)(c:Int):ai [s.d,.int 1,.int c]=some {s with clock:=c}.d:=UD ..
def T6(s:WS)(h m:Int)(o:Bool):ai [s.d,.int 2,.tup [.int h,.int m,.bl o]]=some {s with ah:=h,am:=m,aon:=o}.d:=put2 ..
def Ud(s:WS)(m:Int)(r:Bool)(k:List Int):ai [s.d,.int 3,.tup [.int m,.bl r,.tup (k.map .int)]]=some {s with lm:=m,lr:=r,lk:=k}.d:=put3 ..
def Va(s:WS)(m c l:Int)(r:Bool):ai [s.d,.int 4,.tup [.int m,.int c,.int l,.bl r]]=some {s with cm:=m,cs:=c,cl:=l,cr:=r}.d:=UI ..
def U7(s:WS)(r:Int):ai [s.d,.int 5,.int r]=some {s with ring:=r}.d:=Ul ..
def RQ(s:WS):ai [s.d,.int 6,.non]=some {s with held:=none}.d:=Rh ..
def S7(s:WS)(x:vv)(k:V3 Int):ai [s.d,.int 6,.tup [.str x.x,rN k]]=some {s with held:=some (x,k)}.d:=Rh ..
def UW(s:WS)(x:vv):ai [s.d,.int 6,.tup [.str x.x,.non]]=some {s with held:=some (x,none)}.d:=Rh ..
def TH(s:WS)(i:Int):ai [s.d,.int 7,.int i]=some {s with idle:=i}.d:=UY ..
def fU:R->V3 Out:=
 (i5 (b9 0))
def cE:LD->OD:=via 1 1 fU
def kr(s:WS):cE [s.d]=some (deed .none s).d:=by simp[cE,via,fU,deed]
def fZ:R->V3 Out:=
 (i5 (d3 ai (b8 (b9 0) (b8 (λ_=>some aG) (b8 (d6 rn (d6 n6 (d6 e8 (b9 0) (λ_=>some aG)) (kI 3600)) (kI 86400)) d4)))))
def cJ:LD->OD:=via 1 1 fZ
def kH(s:WS):cJ [s.d]=some (deed .hour s).d:=by simp[-e8,cJ,via,fZ,aG,w1,UR,deed]
def dZ:R->V3 Out:=
  (i4 (i7 (d6 e8 (b9 0) (λ_=>some aG)) (setAt 1))
  (i4 (i7 (d6 rn (d6 n6 (d6 rn (b9 1) (kI 3600)) (kI 60)) (kI 3600)) (setAt 2))
  (i5 (d3 ai (b8 (b9 0) (b8 (λ_=>some aG) (b8 (d6 n6 (d6 uZ (b9 1) (d6 rn (b9 1) (kI 3600))) (b9 2)) d4)))))))
def bQ:LD->OD:=via 1 3 dZ
def iM(s:WS):bQ [s.d]=some (deed .minute s).d:=by simp[-e8,bQ,via,dZ,aG,w1,UR,deed]
def fW:R->V3 Out:=
 (i5 (d3 ai (b8 (b9 0) (b8 (λ_=>some aG) (b8 (d6 uZ (d6 e8 (b9 0) (λ_=>some aG)) (d6 rn (d6 e8 (b9 0) (λ_=>some aG)) (kI 60))) d4)))))
def cI:LD->OD:=via 1 1 fW
def j5(s:WS):cI [s.d]=some (deed .zero s).d:=by simp[-e8,cI,via,fW,aG,w1,UR,deed]
def ca:R->V3 Out:=
  (i4 (i7 (d6 e8 (b9 0) (λ_=>some aN)) (setAt 1))
  (i5 (d3 ai (b8 (b9 0) (b8 (λ_=>some aN) (b8 (l9 (b8 (d6 rn (d6 n6 (d6 e8 (b9 1) (kI 0)) (kI 1)) (kI 24)) (b8 (d6 e8 (b9 1) (kI 1)) (b8 (d6 e8 (b9 1) (kI 2)) d4)))) d4))))))
def aU:LD->OD:=via 1 2 ca
def eJ(s:WS):aU [s.d]=some (deed .ahour s).d:=by simp[-e8,aU,via,ca,aN,w2,SD,Se,Sn,T6,deed]
def bT:R->V3 Out:=
  (i4 (i7 (d6 e8 (b9 0) (λ_=>some aN)) (setAt 1))
  (i5 (d3 ai (b8 (b9 0) (b8 (λ_=>some aN) (b8 (l9 (b8 (d6 e8 (b9 1) (kI 0)) (b8 (d6 rn (d6 n6 (d6 e8 (b9 1) (kI 1)) (kI 1)) (kI 60)) (b8 (d6 e8 (b9 1) (kI 2)) d4)))) d4))))))
def aI:LD->OD:=via 1 2 bT
def dt(s:WS):aI [s.d]=some (deed .aminute s).d:=by simp[-e8,aI,via,bT,aN,w2,SD,Se,Sn,T6,deed]
def cC:R->V3 Out:=
  (i4 (i7 (d6 e8 (b9 0) (λ_=>some aN)) (setAt 1))
  (i5 (d3 ai (b8 (b9 0) (b8 (λ_=>some aN) (b8 (l9 (b8 (d6 e8 (b9 1) (kI 0)) (b8 (d6 e8 (b9 1) (kI 1)) (b8 (EZ (d6 e8 (b9 1) (kI 2))) d4)))) d4))))))
def a_:LD->OD:=via 1 2 cC
def fI(s:WS):a_ [s.d]=some (deed .alarm s).d:=by simp[-e8,a_,via,cC,aN,w2,SD,Se,Sn,T6,deed]
def cO:R->V3 Out:=
  (i4 (i7 (d6 e8 (b9 0) (λ_=>some bD)) (setAt 1))
  (i5 (d3 ai (b8 (b9 0) (b8 (λ_=>some bD) (b8 (l9 (b8 (d6 e8 (b9 1) (kI 0)) (b8 (EZ (d6 e8 (b9 1) (kI 1))) (b8 (d6 e8 (b9 1) (kI 2)) d4)))) d4))))))
def bj:LD->OD:=via 1 2 cO
def fO(s:WS):bj [s.d]=some (deed .run s).d:=by simp[-e8,bj,via,cO,bD,w3,SR,Ua,Ta,Ud,deed]
def jf:R->V3 Out:=
  (i4 (i7 (d6 e8 (b9 0) (λ_=>some bD)) (setAt 1))
  (i4 (uG (yn (tQ (d6 e8 (b9 1) (kI 1))))
  (i5 (d3 ai (b8 (b9 0) (b8 (λ_=>some bD) (b8 (l9 (b8 (kI 0) (b8 (λ_=>some (.bl false)) (b8 (l9 d4) d4)))) d4)))))
  qZ)
  (i4 (uG (i9 RC (d3 rY (b8 (d6 e8 (b9 1) (kI 2)) d4)) (λ_=>some dW))
  (i5 (b9 0))
  qZ)
  (i5 (d3 ai (b8 (b9 0) (b8 (λ_=>some bD) (b8 (l9 (b8 (d6 e8 (b9 1) (kI 0)) (b8 (λ_=>some (.bl true)) (b8 (d6 n6 (d6 e8 (b9 1) (kI 2)) (l9 (b8 (d6 e8 (b9 1) (kI 0)) d4))) d4)))) d4))))))))
def cW:LD->OD:=via 1 2 jf
def jq(s:WS)(h:s.lk.length<=4):cW [s.d]=some (deed .lap s).d:=by
 have t:tQ (d6 e8 (b9 1) (kI 1)) [some s.d,some s.lapsD]=some s.lr:=Em (i3 rfl rfl (Ua s));have g:rY [.tup (s.lk.map .int)]=some (.int s.lk.length):=by show some (D.int ((s.lk.map D.int).length:Int))=_;rw[V9]
 have a:d3 rY (b8 (d6 e8 (b9 1) (kI 2)) d4) [some s.d,some s.lapsD]=some (.int s.lk.length):=d8 (qM (i3 rfl rfl (Ta s)) rfl) g;have a1:i7 (d6 e8 (b9 0) (λ_=>some bD)) (setAt 1) [some s.d,none]=some (.nx [some s.d,some s.lapsD]):=qO (i3 rfl rfl (w3 s)) rfl;cases c:s.lr with
 | false =>
  have e:deed .lap s={s with lm:=0,lr:=false,lk:=[]}:=by
   show(if s.lr then _ else {s with lm:=0,lk:=[]})=_;rw[Wu (by rw[c];decide),<- c]
  rw[c] at t;rw[e];exact k6 ((i6 a1).trans (um ((yU (Et (b:=false) t)).trans (retS (d8 (qM rfl (qM rfl (qM (tupS (qM rfl (qM rfl (qM (tupS rfl) rfl)))) rfl))) (Ud s 0 false []))))))
 | true =>
  rw[c] at t;have n1:uG (yn (tQ (d6 e8 (b9 1) (kI 1)))) (i5 (d3 ai (b8 (b9 0) (b8 (λ_=>some bD) (b8 (l9 (b8 (kI 0) (b8 (λ_=>some (.bl false)) (b8 (l9 d4) d4)))) d4))))) qZ [some s.d,some s.lapsD]=some (.nx [some s.d,some s.lapsD]):=(v5 (Et (b:=true) t)).trans rfl;by_cases f:4<=s.lk.length
  ·have e:deed .lap s=s:=by
    show(if s.lr then (if 4<=s.lk.length then s else _) else _)=_;rw[Wc c,Wc f]
   rw[e];exact k6 ((i6 a1).trans ((i6 n1).trans (um ((yU (si a rfl (dT (Int.ofNat_le.mpr f)))).trans (retS rfl)))))
  ·have e:deed .lap s={s with lm:=s.lm,lr:=true,lk:=s.lk++[s.lm]}:=by
    show(if s.lr then (if 4<=s.lk.length then s else {s with lk:=s.lk++[s.lm]}) else _)=_;rw[Wc c,Wu f,<- c]
   have i:n6 (.tup (s.lk.map .int)) (.tup [.int s.lm])=some (.tup ((s.lk++[s.lm]).map .int)):=by
    rw[Xb];exact wa (by rw[V9];show s.lk.length+1<=8;omega)
   rw[e];exact k6 ((i6 a1).trans ((i6 n1).trans ((i6 ((v5 (si a rfl (dF λq=>f (Int.ofNat_le.mp q)))).trans rfl)).trans (retS (d8 (qM rfl (qM rfl (qM (tupS (qM (i3 rfl rfl (SR s)) (qM rfl (qM (i3 (i3 rfl rfl (Ta s)) (tupS (qM (i3 rfl rfl (SR s)) rfl)) i) rfl)))) rfl))) (Ud s s.lm true (s.lk++[s.lm])))))))
def iI:R->V3 Out:=
  (i4 (uG (tQ (d6 e8 (d6 e8 (b9 0) (λ_=>some aA)) (kI 3)))
  (i5 (b9 0))
  qZ)
  (i5 (d3 ai (b8 (b9 0) (b8 (λ_=>some aA) (b8 (l9 (b8 (b9 1) (b8 (b9 2) (b8 (d6 n6 (d6 wx (kI 60) (b9 1)) (b9 2)) (b8 (λ_=>some (.bl false)) d4))))) d4))))))
def bV:LD->OD:=via 3 3 iI
def fu(s:WS)(m c:Int):bV [s.d,.int m,.int c]=some (ya s m c).d:=by
 cases a:s.cr<;>simp[-e8,-wx,bV,via,iI,aA,w4,UQ,a,ya,Po,Va]
def bS:R->V3 Out:=
  (i4 (i7 (d6 e8 (b9 0) (λ_=>some aA)) (setAt 1))
  (i5 (d3 bV (b8 (b9 0) (b8 (d6 rn (d6 n6 (d6 e8 (b9 1) (kI 0)) (kI 1)) (kI 60)) (b8 (d6 e8 (b9 1) (kI 1)) d4))))))
def aH:LD->OD:=via 1 2 bS
def dB(s:WS):aH [s.d]=some (deed .cminute s).d:=by simp[-e8,aH,via,bS,aA,w4,Su,Ss,fu,deed]
def bM:R->V3 Out:=
  (i4 (i7 (d6 e8 (b9 0) (λ_=>some aA)) (setAt 1))
  (i5 (d3 bV (b8 (b9 0) (b8 (d6 e8 (b9 1) (kI 0)) (b8 (d6 rn (d6 n6 (d6 e8 (b9 1) (kI 1)) (kI 1)) (kI 60)) d4))))))
def aF:LD->OD:=via 1 2 bM
def dC(s:WS):aF [s.d]=some (deed .csecond s).d:=by simp[-e8,aF,via,bM,aA,w4,Su,Ss,fu,deed]
def iK:R->V3 Out:=
  (i4 (i7 (d6 e8 (b9 0) (λ_=>some aA)) (setAt 1))
  (i5 (d3 bV (b8 (b9 0) (b8 (d6 e8 (b9 1) (kI 0)) (b8 (d6 e8 (b9 1) (kI 1)) d4))))))
def dv:LD->OD:=via 1 2 iK
def lp(s:WS):dv [s.d]=some (deed .full s).d:=by simp[-e8,dv,via,iK,aA,w4,Su,Ss,fu,deed]
def fg:R->V3 Out:=
  (i4 (i7 (d6 e8 (b9 0) (λ_=>some aA)) (setAt 1))
  (i4 (i7 (vy (EZ (d6 e8 (b9 1) (kI 3))) (zJ (i9 FT (d6 e8 (b9 1) (kI 2)) (kI 0)))) (setAt 2))
  (i5 (d3 ai (b8 (b9 0) (b8 (λ_=>some aA) (b8 (l9 (b8 (d6 e8 (b9 1) (kI 0)) (b8 (d6 e8 (b9 1) (kI 1)) (b8 (d6 e8 (b9 1) (kI 2)) (b8 (b9 2) d4))))) d4)))))))
def bJ:LD->OD:=via 1 3 fg
def fi(s:WS):bJ [s.d]=some (deed .count s).d:=by
 have q:∀r:Bool,vy (EZ (d6 e8 (b9 1) (kI 3))) (zJ (i9 FT (d6 e8 (b9 1) (kI 2)) (kI 0))) [some s.d,some (.tup [.int s.cm,.int s.cs,.int s.cl,.bl r]),none]=some (.bl (!r&&decide (0<s.cl))):=by
  intro r;cases r
  ·exact EX rfl (HU (si (i3 rfl rfl rfl) rfl rfl))
  ·exact Jg rfl
 exact k6 ((i6 (qO (i3 rfl rfl (w4 s)) rfl)).trans ((i6 (qO (q s.cr) rfl)).trans (retS (d8 (qM rfl (qM rfl (qM (tupS (qM (i3 rfl rfl (Su s)) (qM (i3 rfl rfl (Ss s)) (qM (i3 rfl rfl (TR s)) rfl)))) rfl))) (Va s s.cm s.cs s.cl _)))))
def wU:List (Str×(LD->OD)):=[(oS "none",cE),(oS "hour",cJ),(oS "minute",bQ),(oS "zero",cI),(oS "ahour",aU),(oS "aminute",aI),(oS "alarm",a_),(oS "run",bj),(oS "lap",cW),(oS "cminute",aH),(oS "csecond",aF),(oS "full",dv),(oS "count",bJ)]
def gu:R->V3 Out:=
  (i4 (i7 (d6 e8 (d6 e8 (d6 e8 (b9 0) (kI 2)) (d6 e8 (b9 1) (λ_=>some bF))) (kI 2)) (setAt 3))
  (i4 (i7 (d6 e8 (b9 3) (NV (Lc bB) (b9 2))) (setAt 4))
  (RO 5 wU (d6 e8 (b9 4) (kI 0)) (λa=>(i5 (d3 ai (b8 (d3 a (b8 (b9 1) d4)) (b8 (λ_=>some bF) (b8 (d6 e8 (b9 4) (kI 1)) d4)))))))))
def bw:LD->OD:=via 3 6 gu
def nD(d:rH)(s:WS)(h:s.lk.length<=4):∃F,wU.lookup d.x=some F/\F [s.d]=some (deed d s).d:=by
 cases d
 ·exact⟨_,rfl,kr s⟩
 ·exact⟨_,rfl,kH s⟩
 ·exact⟨_,rfl,iM s⟩
 ·exact⟨_,rfl,j5 s⟩
 ·exact⟨_,rfl,eJ s⟩
 ·exact⟨_,rfl,dt s⟩
 ·exact⟨_,rfl,fI s⟩
 ·exact⟨_,rfl,fO s⟩
 ·exact⟨_,rfl,jq s h⟩
 ·exact⟨_,rfl,dB s⟩
 ·exact⟨_,rfl,dC s⟩
 ·exact⟨_,rfl,lp s⟩
 ·exact⟨_,rfl,fi s⟩
def Sh(x:vv):Lc bB (.str x.x)=some (.int (x.ix:Int)):=by cases x<;>rfl
def R8(x:vv):Lc bB (.str x.X)=some (.int ((x.ix+3:Nat):Int)):=by cases x<;>rfl
def VU{i:Nat}(h1:f ρ=some (.str z))(d:a.lookup z=some F)(b:i<ρ.length)(c:g F (ρ.set i none)=o):RO i a f g ρ=o:=by
 unfold RO;rw[h1];show(a.lookup z).bind _=_;rw[d];show(if i<ρ.length then g F (ρ.set i none) else none)=_;rw[Wc b,c]
def dz(ok:b.Ok)(w:s.Wk b){i:Nat}(h:i<6)(f:Lc bB (.str p)=some (.int (i:Int))):bw [b.d,s.d,.str p]=some (press b s i).d:=by
 have g:=gK b w.mode;have j:=(ok.all _ (mw b w.mode)).six;have e:=pY (b.modes.getD s.mode default) (i:=i) (by rw[j];exact h);obtain⟨F,c,a⟩:=nD (b.row s.mode i).1 s w.lk;unfold Bk.row at c a;unfold press Bk.row;generalize (b.modes.getD s.mode default)=md at *
 generalize (md.rows.getD i (rH.none,0))=rw_ at *
 exact k6 ((i6 (qO (i3 (i3 (i3 rfl rfl (b2 b)) (i3 rfl rfl (w0 s)) g) rfl (m2 md)) rfl)).trans ((i6 (qO (i3 rfl (T4 rfl f) e) rfl)).trans
  (VU (i3 rfl rfl (r0 rw_)) c (by simp) (retS (d8 (qM (d8 rfl a) (qM rfl (qM (i3 rfl rfl (r1 rw_)) rfl))) (Vd _ _))))))
def lW:R->V3 Out:=
  (i4 (i7 (d6 e8 (b9 1) (λ_=>some aR)) (setAt 2))
  (i4 (uG (i9 xZ (b9 2) (λ_=>some .non))
  (i5 (d3 ai (b8 (b9 1) (b8 (λ_=>some bF) (b8 (kI 0) d4)))))
  qZ)
  (i5 (d3 bw (b8 (b9 0) (b8 (d3 ai (b8 (b9 1) (b8 (λ_=>some aR) (b8 (l9 (b8 (d6 e8 (b9 2) (kI 0)) (b8 (λ_=>some .non) d4))) d4)))) (b8 (NV Tz (d6 e8 (b9 2) (kI 0))) d4)))))))
def fv:LD->OD:=via 2 3 lW
def Sr(x:vv):Tz (.str x.x)=some (.str x.X):=by cases x<;>rfl
def zh(h:s.held=none):turned b s={s with mode:=0}:=by
 unfold turned;split
 ·rfl
 ·rename_i e;rw[h] at e;cases e
def Fc(h:s.held=some (x,k)):turned b s=press b {s with held:=some (x,none)} (x.ix+3):=by
 unfold turned;split
 ·rename_i e;rw[h] at e;cases e
 ·rename_i e;rw[h] at e;cases e;rfl
def lc(ok:b.Ok)(w:s.Wk b):fv [b.d,s.d]=some (turned b s).d:=by
 have a:=w6 s;rcases hs:s.held with _ | ⟨x,k⟩<;>rw[hs] at a
 ·rw[zh hs]
  exact k6 ((i6 (qO (i3 rfl rfl a) rfl)).trans (um ((yU rfl).trans (retS (d8 rfl (Vd s 0))))))
 ·have e:=dz (s:={s with held:=some (x,none)}) ok {w with} x.ix3 (R8 x)
  rw[Fc hs];exact k6 ((i6 (qO (i3 rfl rfl a) rfl)).trans ((i6 (v5 rfl)).trans (retS (d8 (qM rfl (qM (d8 (qM rfl (qM rfl (qM (tupS (qM (i3 rfl rfl (h0 x k)) rfl)) rfl))) (UW s x)) (qM (T4 (i3 rfl rfl (h0 x k)) (Sr x)) rfl))) e))))
def cQ:R->V3 Out:=
 (i5 (d3 fv (b8 (b9 0) (b8 (d3 cL (b8 (b9 0) (b8 (b9 1) (b8 (d3 bN (b8 (b9 0) (b8 (b9 1) d4))) d4)))) d4))))
def bh:LD->OD:=via 2 2 cQ
def lP{t:Int}(ok:b.Ok)(w:s.Wk b)(h:n9 b s=some t):bh [b.d,s.d]=some (behind b s t).d:=by
 have a:=eB w;rw[h] at a;have f:=uA h;have e:=dN (s:=s) t ok.back0;have c:=lc ok (w.cnt (n:=t) (by omega));simp only[rN] at a;simp[bh,via,cQ,a,e,c,behind]
def h_:R->V3 Out:=
  (i4 (i7 (d3 bN (b8 (b9 0) (b8 (b9 1) d4))) (setAt 3))
  (i4 (uG (Jo (i9 xZ (b9 3) (λ_=>some .non)) (i9 FT (b9 3) (b9 2)))
  (i5 (x3 (b8 (l9 (b8 (kI 0) (b8 (b9 1) (b8 (b9 2) d4)))) d4)))
  qZ)
  (i5 (x3 (b8 (l9 (b8 (kI 0) (b8 (b9 1) (b8 (b9 3) d4)))) (b8 (l9 (b8 (b9 3) (b8 (d3 bh (b8 (b9 0) (b8 (b9 1) d4))) (b8 (d6 uZ (b9 2) (b9 3)) d4)))) d4))))))
def aW:LD->OD:=via 3 4 h_
def tP(b:Bk)(s:WS)(n:Int):LD:=match n9 b s with
 | none=>[.tup [.int 0,s.d,.int n]]
 | some t=>if n<t then [.tup [.int 0,s.d,.int n]] else [.tup [.int 0,s.d,.int t],.tup [.int t,(behind b s t).d,.int (n - t)]]
def d_(n:Int)(ok:b.Ok)(w:s.Wk b):aW [b.d,s.d,.int n]=some (.lst (tP b s n)):=by
 have a:=eB w;unfold tP;cases h:n9 b s with
 | none =>
  rw[h] at a;exact k6 ((i6 (qO (d8 rfl a) rfl)).trans (um ((yU (Ub rfl)).trans (retS rfl))))
 | some t =>
  have e:=lP ok w h;rw[h] at a;dsimp only;by_cases c:n<t
  ·rw[Wc c]
   exact k6 ((i6 (qO (d8 rfl a) rfl)).trans (um ((yU (RM rfl (si rfl rfl (dT c)))).trans (retS rfl))))
  ·rw[Wu c]
   exact k6 ((i6 (qO (d8 rfl a) rfl)).trans ((i6 (v5 (RM rfl (si rfl rfl (dF c))))).trans (retS (RZ (qM rfl (qM (tupS (qM rfl (qM (d8 rfl e) rfl))) rfl))))))
def mq:R->V3 Out:=
  (i4 (i7 (d6 e8 (d3 aW (b8 (b9 0) (b8 (b9 1) (b8 (b9 2) d4)))) (NV Tb (kI 1))) (setAt 3))
  (i5 (d3 cL (b8 (b9 0) (b8 (d6 e8 (b9 3) (kI 1)) (b8 (d6 e8 (b9 3) (kI 2)) d4))))))
def fc:LD->OD:=via 3 4 mq
def kK(n:Int)(ok:b.Ok)(w:s.Wk b):fc [b.d,s.d,.int n]=some (ticked b s n).d:=by
 have a:=d_ n ok w;unfold tP at a;unfold ticked;have e:=dN (s:=s) n ok.back0;cases h:n9 b s with
 | none =>
  rw[h] at a;exact k6 ((i6 (qO (i3 (d8 rfl a) rfl rfl) rfl)).trans (retS (d8 rfl e)))
 | some t =>
  rw[h] at a;dsimp only at a ⊢;have f:=dN (s:=behind b s t) (n - t) ok.back0;by_cases c:n<t
  ·rw[Wc c] at a ⊢
   exact k6 ((i6 (qO (i3 (d8 rfl a) rfl rfl) rfl)).trans (retS (d8 rfl e)))
  ·rw[Wu c] at a ⊢
   exact k6 ((i6 (qO (i3 (d8 rfl a) rfl rfl) rfl)).trans (retS (d8 rfl f)))
def ma:R->V3 Out:=
  (i4 (uG (i9 uQ (d6 e8 (b9 0) (λ_=>some aR)) (λ_=>some .non))
  (i5 (b9 0))
  qZ)
  (i4 (i7 (Ha (i9 FT (d6 e8 (b9 0) (λ_=>some dE)) (kI 0)) (λ_=>some .non) (kI 0)) (setAt 2))
  (i5 (d3 ai (b8 (d3 ai (b8 (d3 ai (b8 (b9 0) (b8 (λ_=>some dE) (b8 (kI 0) d4)))) (b8 (λ_=>some aR) (b8 (l9 (b8 (b9 1) (b8 (b9 2) d4))) d4)))) (b8 (λ_=>some cX) (b8 (kI 0) d4)))))))
def fh:LD->OD:=via 2 3 ma
def kL(s:WS)(x:vv):fh [s.d,.str x.x]=some (pushed s x).d:=by
 have a:=w6 s;have e:=w5 s;unfold pushed;cases c:s.held with
 | some v =>
  rw[c] at a;exact k6 (um ((yU (si (i3 rfl rfl a) rfl rfl)).trans (retS rfl)))
 | none =>
  rw[c] at a;by_cases b:0<s.ring
  ·have z:=S7 {s with ring:=0} x none
   simp only[Option.isSome_none,Bool.false_eq_true,if_false,Wc b];exact k6 ((i6 (v5 (si (i3 rfl rfl a) rfl rfl))).trans ((i6 (qO (Oc (si (i3 rfl rfl e) rfl (dT b)) rfl) rfl)).trans (retS (d8 (qM (d8 (qM (d8 rfl (U7 s 0)) rfl) z) rfl) (TH _ 0)))))
  ·have z:=S7 {s with ring:=0} x (some 0)
   simp only[Option.isSome_none,Bool.false_eq_true,if_false,Wu b];exact k6 ((i6 (v5 (si (i3 rfl rfl a) rfl rfl))).trans ((i6 (qO (Od (si (i3 rfl rfl e) rfl (dF b)) rfl) rfl)).trans (retS (d8 (qM (d8 (qM (d8 rfl (U7 s 0)) rfl) z) rfl) (TH _ 0)))))
def gE:R->V3 Out:=
 (i5 (vy (zJ (i9 uQ (d6 e8 (b9 0) (λ_=>some aR)) (λ_=>some .non))) (zJ (i9 zo (d6 e8 (d6 e8 (b9 0) (λ_=>some aR)) (kI 0)) (b9 1)))))
def bz:LD->OD:=via 2 2 gE
def Q7(x y:vv):zo (.str x.x) (.str y.x)=some (decide (x=y)):=by cases x<;>cases y<;>rfl
def dm(s:WS)(x:vv):bz [s.d,.str x.x]=some (.bl (match s.held with | some (y,_)=>decide (y=x) | none=>false)):=by
 have a:=w6 s;rcases hs:s.held with _ | ⟨y,k⟩<;>rw[hs] at a
 ·exact k6 (retS (Jg (HU (si (i3 rfl rfl a) rfl rfl))))
 ·exact k6 (retS (EX (HU (si (i3 rfl rfl a) rfl rfl)) (HU (si (i3 (i3 rfl rfl a) rfl (h0 y k)) rfl (Q7 y x)))))
def jj:R->V3 Out:=
 (i5 (vy (d3 bz (b8 (b9 0) (b8 (b9 1) d4))) (zJ (i9 uQ (d6 e8 (d6 e8 (b9 0) (λ_=>some aR)) (kI 1)) (λ_=>some .non)))))
def bG:LD->OD:=via 2 2 jj
def fD(s:WS)(x:vv):bG [s.d,.str x.x]=some (.bl (match s.held with | some (y,k)=>decide (y=x)&&k.isSome | none=>false)):=by
 have e:=dm s x;have b:=w6 s;rcases hs:s.held with _ | ⟨y,k⟩<;>rw[hs] at e b
 ·exact k6 (retS (Jg (d8 rfl e)))
 ·by_cases a:y=x
  ·simp only[a,decide_true,Bool.true_and] at e ⊢
   exact k6 (retS (EX (d8 rfl e) (HU (si (i3 (i3 rfl rfl b) rfl (h1 y k)) rfl (M2 k)))))
  ·simp only[a,decide_false,Bool.false_and] at e ⊢
   exact k6 (retS (Jg (d8 rfl e)))
def lT:R->V3 Out:=
  (i4 (uG (yn (tQ (d3 bz (b8 (b9 1) (b8 (b9 2) d4)))))
  (i5 (b9 1))
  qZ)
  (i4 (uG (tQ (d3 bG (b8 (b9 1) (b8 (b9 2) d4))))
  (i7 (d3 bw (b8 (b9 0) (b8 (b9 1) (b8 (b9 2) d4)))) (setAt 1))
  qZ)
  (i5 (d3 ai (b8 (d3 ai (b8 (b9 1) (b8 (λ_=>some aR) (b8 (λ_=>some .non) d4)))) (b8 (λ_=>some cX) (b8 (kI 0) d4)))))))
def e_:LD->OD:=via 3 3 lT
def lx(ok:b.Ok)(w:s.Wk b)(x:vv):e_ [b.d,s.d,.str x.x]=some (letGo b s x).d:=by
 have a:=dm s x;have c:=fD s x;have f:=dz ok w x.ix6 (Sh x);unfold letGo;rcases hs:s.held with _ | ⟨y,k⟩<;>rw[hs] at a c
 ·exact k6 (um ((yU (Et (Em (d8 rfl a)))).trans (retS rfl)))
 ·by_cases e:y=x
  ·subst e
   simp only[decide_true,Bool.true_and] at a c;dsimp only;rw[Wc rfl];cases k with
   | none=>exact k6 ((i6 (v5 (Et (Em (d8 rfl a))))).trans ((i6 (v5 (Em (d8 rfl c)))).trans (retS (d8 (qM (d8 rfl (RQ s)) rfl) (TH _ 0)))))
   | some j=>exact k6 ((i6 (v5 (Et (Em (d8 rfl a))))).trans ((i6 ((yU (Em (d8 rfl c))).trans (qO (d8 rfl f) rfl))).trans (retS (d8 (qM (d8 rfl (RQ _)) rfl) (TH _ 0)))))
  ·dsimp only at a ⊢
   rw[Wx e] at a;rw[Wu e];exact k6 (um ((yU (Et (Em (d8 rfl a)))).trans (retS rfl)))
def oI:R->V3 Out:=
  (i4 (uG (i9 zo (d6 e8 (b9 2) (kI 0)) (kS "down"))
  (i5 (d3 fh (b8 (b9 1) (b8 (d6 e8 (b9 2) (kI 1)) d4))))
  qZ)
  (i4 (uG (i9 zo (d6 e8 (b9 2) (kI 0)) (kS "up"))
  (i5 (d3 e_ (b8 (b9 0) (b8 (b9 1) (b8 (d6 e8 (b9 2) (kI 1)) d4)))))
  qZ)
  (i5 (d3 fc (b8 (b9 0) (b8 (b9 1) (b8 (d6 e8 (b9 2) (kI 1)) d4)))))))
def fe:LD->OD:=via 3 3 oI
def PN:zo (.str (oS "down")) (.str (oS "down"))=some true:=rfl
def QA:zo (.str (oS "up")) (.str (oS "down"))=some false:=rfl
def QT:zo (.str (oS "ticks")) (.str (oS "down"))=some false:=rfl
def F4:zo (.str (oS "up")) (.str (oS "up"))=some true:=rfl
def PY:zo (.str (oS "ticks")) (.str (oS "up"))=some false:=rfl
def lN(ok:b.Ok)(w:s.Wk b)(e:Ev):fe [b.d,s.d,e.d]=some (gone b s e).d:=by
 cases e with
 | down x=>exact k6 (um ((yU (si rfl rfl PN)).trans (retS (d8 rfl (kL s x)))))
 | up x=>exact k6 ((i6 (v5 (si rfl rfl QA))).trans (um ((yU (si rfl rfl F4)).trans (retS (d8 rfl (lx ok w x))))))
 | ticks n=>exact k6 ((i6 (v5 (si rfl rfl QT))).trans ((i6 (v5 (si rfl rfl PY))).trans (retS (d8 rfl (kK n ok w)))))
def kC:R->V3 Out:=
  (Ft 1 d4
  (uj (xa (Jz (i9 RC (b9 0) (λ_=>some cH))))
  (uj (Au 1 (d3 Dx (b8 (b9 0) d4)))
  (wn (i5 (d3 Aw (b8 (kS "") (b8 (b9 1) d4))))))))
def cF:LD->OD:=via 1 2 kC
noncomputable def tx(i:Int):Str:=Str.ofString (toString i)
def Cy{n:Int}(h0:0<=n)(h1:n<1000000000000000000):n.natAbs.log2<1920:=by
 have a:n.natAbs<2 ^ 60:=by omega
 by_cases hz:n.natAbs=0
 ·rw[hz];decide
 ·have:=(Nat.log2_lt hz).mpr a;omega
def Dt{n:Int}(h0:0<=n)(h1:n<1000000000000000000):(tx n).length<=1921:=PyProof.Rows.int_text_len_1921 (Cy h0 h1)
def Pm{n:Int}(h0:0<=n)(h1:n<1000000000000000000):Dx [.int n]=some (.str (tx n)):=Wc (Cy h0 h1)
def Sq(h:x.length<=100000):Aw [.str (oS ""),.lst [.str x]]=some (.str x):=by
 have z:100000<=sizeLine:=by decide
 have e:(oS "").length=0:=by decide +kernel
 show(HB (oS "") [x]).map D.str=_;unfold HB;rw[Wc]
 ·rfl
 ·constructor
  ·show 0+x.length+(oS "").length<=sizeLine
   rw[e];omega
  ·show x.length<=sizeLine
   omega
def ga{n:Int}(h0:0<=n)(h1:n<1000000000000000000):cF [.int n]=some (.str (tx n)):=by
 have a:Jz (i9 RC (b9 0) (λ_=>some cH)) [some (.int n)]=some (.nx [some (.int n)]):=by
  have:¬ (1000000000000000000:Int)<=n:=by omega
  simp[cH,this]
 have b:=Pm h0 h1;have c:=Sq (x:=tx n) (WD (Dt h0 h1) (by decide));have z:0<sizeLine:=by decide
 have a1:xa (Jz (i9 RC (b9 0) (λ_=>some cH))) [some (.int n)] []=some (.nx [some (.int n)],[]):=by
  show(Jz _ _).map _=_;rw[a];rfl
 have a2:Au 1 (d3 Dx (b8 (b9 0) d4)) [some (.int n)] []=some (.nx [some (.int n)],[.str (tx n)]):=by
  show((Dx [.int n]).bind _)=_;rw[b];show(if 1=1/\0<sizeLine then _ else none)=_;rw[Wc ⟨rfl,z⟩];rfl
 show rm (uj (xa (Jz (i9 RC (b9 0) (λ_=>some cH)))) _ [some (.int n)] [])=_;rw[Pf a1,Pf a2];show rm ((Aw [.str (oS ""),.lst [.str (tx n)]]).map .rt)=_;rw[c];rfl
def fN:R->V3 Out:=
 (i5 (d3 RL (b8 (d3 cF (b8 (b9 0) d4)) (b8 (kI 2) (b8 (kS "0") d4)))))
def aB:LD->OD:=via 1 1 fN
def ML(n:Int):Str:=Pg (tx n) 2 48
def wV{n:Int}(h0:0<=n)(h1:n<1000000000000000000):(ML n).length<=1921:=by
 unfold ML Pg;have:=Dt h0 h1;split
 ·exact this
 ·show(Array.replicate _ _++(tx n).cps++Array.replicate _ _).size<=_
  have e:(tx n).cps.size=(tx n).length:=rfl;simp;omega
def bg{n:Int}(h0:0<=n)(h1:n<1000000000000000000):aB [.int n]=some (.str (ML n)):=by
 have a:RL [.str (tx n),.int 2,.str (oS "0")]=some (.str (ML n)):=by
  have e:(oS "0").length=1:=by decide +kernel
  have b:(oS "0").cps.getD 0 0=48:=by decide +kernel
  show(if (0:Int)<=2/\(2:Int)<=1000/\(oS "0").length=1 then some (D.str (Pg (tx n) (2:Int).toNat ((oS "0").cps.getD 0 0))) else none)=_;rw[Wc ⟨by decide,by decide,e⟩,b];rfl
 exact k6 (retS (d8 (qM (d8 rfl (ga h0 h1)) rfl) a))
def ic:R->V3 Out:=
 (i5 (d6 n6 (d6 n6 (d3 aB (b8 (b9 0) d4)) (kS ":")) (d3 aB (b8 (b9 1) d4))))
def bL:LD->OD:=via 2 2 ic
def DD(h:x.length+y.length<=100000):n6 (.str x) (.str y)=some (.str (x++y)):=by
 have z:100000<=sizeLine:=by decide
 show(if x.length+y.length<=sizeLine then _ else none)=_;rw[Wc (by omega)]
def uV(x y:Str):(x++y).length=x.length+y.length:=by
 show(x.cps++y.cps).size=_;simp;rfl
def colon:Str:=oS ":"
def sU:colon.length=1:=by decide +kernel
def zg(h m:Int):Str:=ML h++colon++ML m
def Cg{h m:Int}(a:0<=h)(a1:h<1000000000000000000)(b0:0<=m)(b1:m<1000000000000000000):(zg h m).length<=3843:=by
 unfold zg;rw[uV,uV,sU];have:=wV a a1;have:=wV b0 b1;omega
def el{h m:Int}(a:0<=h)(a1:h<1000000000000000000)(b0:0<=m)(b1:m<1000000000000000000):bL [.int h,.int m]=some (.str (zg h m)):=by
 have c:=wV a a1;have b:=wV b0 b1;refine k6 (retS (i3 (i3 (d8 rfl (bg a a1)) rfl (DD ?_)) (d8 rfl (bg b0 b1)) (DD ?_)))
 ·rw[show(oS ":").length=1 from sU];omega
 ·rw[uV,show(oS ":").length=1 from sU];omega
def iG:R->V3 Out:=
  (i4 (i7 (d6 e8 (b9 0) (λ_=>some aG)) (setAt 1))
  (i5 (d6 n6 (d6 n6 (d3 bL (b8 (d6 uz (b9 1) (kI 3600)) (b8 (d6 rn (d6 uz (b9 1) (kI 60)) (kI 60)) d4))) (kS ":")) (d3 aB (b8 (d6 rn (b9 1) (kI 60)) d4)))))
def cg:LD->OD:=via 1 2 iG
def Pa(s:WS):Str:=zg (s.clock / 3600) (s.clock / 60%60)++colon++ML (s.clock%60)
def ib(w:s.Wk b):cg [s.d]=some (.str (Pa s)):=by
 have c0:=w.clock0;have c1:=w.clock1;have c:=Cg (h:=s.clock / 3600) (m:=s.clock / 60%60) (by omega) (by omega) (by omega) (by omega);have a:=wV (n:=s.clock%60) (by omega) (by omega);refine k6 ((i6 (qO (i3 rfl rfl (w1 s)) rfl)).trans (retS (i3 (i3 (d8 (qM (i3 rfl rfl rfl) (qM (i3 (i3 rfl rfl rfl) rfl (modS (by decide))) rfl)) (el (h:=s.clock / 3600) (m:=s.clock / 60%60) (by omega) (by omega) (by omega) (by omega))) rfl (DD ?_)) (d8 (qM (i3 rfl rfl (modS (by decide))) rfl) (bg (n:=s.clock%60) (by omega) (by omega))) (DD ?_))))
 ·rw[show(oS ":").length=1 from sU];omega
 ·rw[uV,show(oS ":").length=1 from sU];omega
def gy:R->V3 Out:=
  (i4 (i7 (d6 e8 (b9 0) (λ_=>some aN)) (setAt 1))
  (i5 (d6 n6 (d3 bL (b8 (d6 e8 (b9 1) (kI 0)) (b8 (d6 e8 (b9 1) (kI 1)) d4))) (Ha (tQ (d6 e8 (b9 1) (kI 2))) (kS " on") (kS "")))))
def b_:LD->OD:=via 1 2 gy
def SH:Str:=oS " on"
def M1:SH.length=3:=by decide +kernel
def E1:(oS "").length=0:=by decide +kernel
def Km(s:WS):Str:=zg s.ah s.am++(if s.aon then SH else oS "")
def gr(w:s.Wk b):b_ [s.d]=some (.str (Km s)):=by
 have c:=w.ah0;have a1:s.ah<1000000000000000000:=by have:=w.ah1;omega
 have b0:=w.am0;have b1:s.am<1000000000000000000:=by have:=w.am1;omega
 have l:=Cg c a1 b0 b1
 have a:∀(o:Bool) (ρ:R),(tQ (d6 e8 (b9 1) (kI 2))) ρ=some o->(Ha (tQ (d6 e8 (b9 1) (kI 2))) (kS " on") (kS "")) ρ=some (.str (if o then SH else oS "")):=λo ρ h=>by
  cases o
  ·exact Od h rfl
  ·exact Oc h rfl
 refine k6 ((i6 (qO (i3 rfl rfl (w2 s)) rfl)).trans (retS (i3 (d8 (qM (i3 rfl rfl (SD s)) (qM (i3 rfl rfl (Se s)) rfl)) (el c a1 b0 b1)) (a s.aon _ (Em (i3 rfl rfl (Sn s)))) (DD ?_))));cases s.aon
 ·show(zg s.ah s.am).length+(oS "").length<=_
  rw[E1];omega
 ·show(zg s.ah s.am).length+SH.length<=_
  rw[M1];omega
def fM:R->V3 Out:=
 (i5 (d6 n6 (d6 n6 (d3 cF (b8 (d6 uz (b9 0) (kI 60)) d4)) (kS ":")) (d3 aB (b8 (d6 rn (b9 0) (kI 60)) d4))))
def bo:LD->OD:=via 1 1 fM
def Gq(s:Int):Str:=tx (s / 60)++colon++ML (s%60)
def cP{s:Int}(e:0<=s)(a1:s<1000000000000000000):bo [.int s]=some (.str (Gq s))/\(Gq s).length<=3843:=by
 have c0:0<=s / 60:=by omega
 have c1:s / 60<1000000000000000000:=by omega
 have b:0<=s%60:=by omega
 have a:s%60<1000000000000000000:=by omega
 have d:=Dt c0 c1;have c:=wV b a;constructor
 ·refine k6 (retS (i3 (i3 (d8 (qM (i3 rfl rfl rfl) rfl) (ga c0 c1)) rfl (DD ?_)) (d8 (qM (i3 rfl rfl (modS (by decide))) rfl) (bg b a)) (DD ?_)))
  ·rw[show(oS ":").length=1 from sU];omega
  ·rw[uV,show(oS ":").length=1 from sU];omega
 ·unfold Gq
  rw[uV,uV,sU];omega
def iO:R->V3 Out:=
  (i4 (i7 (d6 e8 (b9 0) (λ_=>some bD)) (setAt 1))
  (i4 (i7 (d3 rY (b8 (d6 e8 (b9 1) (kI 2)) d4)) (setAt 2))
  (i5 (d6 n6 (d3 bo (b8 (d6 e8 (b9 1) (kI 0)) d4)) (Ha (i9 FT (b9 2) (kI 0)) (d6 n6 (kS " +") (d3 Dx (b8 (b9 2) d4))) (kS ""))))))
def cx:LD->OD:=via 1 3 iO
def Ma:Str:=oS " +"
def Cj:Ma.length=2:=by decide +kernel
def EA(n:Nat):Str:=if 0<n then Ma++tx n else oS ""
def Pl(s:WS):Str:=Gq s.lm++EA s.lk.length
def gZ(w:s.Wk b)(g:s.lm<1000000000000000000):cx [s.d]=some (.str (Pl s)):=by
 have i:=w.lm0;obtain⟨e,l⟩:=cP i g;have k:=w.lk;have c:(0:Int)<=(s.lk.length:Int):=by omega
 have k1:(s.lk.length:Int)<1000000000000000000:=by omega
 have j:=Dt c k1;have a:d3 rY (b8 (d6 e8 (b9 1) (kI 2)) d4) [some s.d,some s.lapsD,none]=some (.int (s.lk.length:Int)):=d8 (qM (i3 rfl rfl (Ta s)) rfl) (by simp)
 have f:(Ha (i9 FT (b9 2) (kI 0)) (d6 n6 (kS " +") (d3 Dx (b8 (b9 2) d4))) (kS "")) [some s.d,some s.lapsD,some (.int (s.lk.length:Int))]=some (.str (EA s.lk.length)):=by
  unfold EA;by_cases h:0<s.lk.length
  ·rw[Wc h]
   exact Oc (si rfl rfl (dT (by omega))) (i3 rfl (d8 rfl (Pm c k1)) (DD (by rw[show(oS " +").length=2 from Cj];omega)))
  ·rw[Wu h]
   exact Od (si rfl rfl (dF (by omega))) rfl
 refine k6 ((i6 (qO (i3 rfl rfl (w3 s)) rfl)).trans ((i6 (qO a rfl)).trans (retS (i3 (d8 (qM (i3 rfl rfl (SR s)) rfl) e) f (DD ?_)))));unfold EA;split
 ·rw[uV,Cj];omega
 ·rw[E1];omega
def gP:R->V3 Out:=
 (i5 (d3 bo (b8 (d6 e8 (d6 e8 (b9 0) (λ_=>some aA)) (kI 2)) d4)))
def bY:LD->OD:=via 1 1 gP
def gA{b:Bk}{s:WS}(w:s.Wk b):bY [s.d]=some (.str (Gq s.cl)):=by
 have a:=w.cl0;have a1:s.cl<1000000000000000000:=by have:=w.cl1;omega
 exact k6 (retS (d8 (qM (i3 (i3 rfl rfl (w4 s)) rfl (TR s)) rfl) (cP a a1).1))
def ti:List (Str×(LD->OD)):=[(oS "time",cg),(oS "alarm",b_),(oS "laps",cx),(oS "count",bY)]
def mL:R->V3 Out:=
  (i4 (i7 (d6 e8 (d6 e8 (d6 e8 (b9 0) (kI 2)) (d6 e8 (b9 1) (λ_=>some bF))) (kI 0)) (setAt 2))
  (RO 3 ti (b9 2) (λa=>(i5 (l9 (b8 (b9 2) (b8 (d3 a (b8 (b9 1) d4)) (b8 (zJ (i9 FT (d6 e8 (b9 1) (λ_=>some dE)) (kI 0))) d4))))))))
def eY:LD->OD:=via 2 4 mL
def AE(f:Face)(s:WS):Str:=match f with
 | .time=>Pa s
 | .alarm=>Km s
 | .laps=>Pl s
 | .count=>Gq s.cl
def DR(w:s.Wk b)(a:s.lm<1000000000000000000)(f:Face):∃F,ti.lookup f.x=some F/\F [s.d]=some (.str (AE f s)):=by
 cases f
 ·exact⟨_,rfl,ib w⟩
 ·exact⟨_,rfl,gr w⟩
 ·exact⟨_,rfl,gZ w a⟩
 ·exact⟨_,rfl,gA w⟩
def mV(w:s.Wk b)(e:s.lm<1000000000000000000):eY [b.d,s.d]=some (.tup [.str (b.modes.getD s.mode default).face.x,.str (AE (b.modes.getD s.mode default).face s),.bl (decide (0<s.ring))]):=by
 have c:=gK b w.mode;generalize b.modes.getD s.mode default=md at *
 obtain⟨F,h1,f⟩:=DR w e md.face
 have a:i7 (d6 e8 (d6 e8 (d6 e8 (b9 0) (kI 2)) (d6 e8 (b9 1) (λ_=>some bF))) (kI 0)) (setAt 2) [some b.d,some s.d,none,none]=some (.nx [some b.d,some s.d,some (.str md.face.x),none]):=
  qO (i3 (i3 (i3 rfl rfl (b2 b)) (i3 rfl rfl (w0 s)) c) rfl (m0 md)) rfl
 refine k6 ((i6 a).trans ?_);simp[-e8,RO,h1,f,dE,w5]
def xP:R->LD->V3 (Out×LD):=
 (xa (i7 (d3 fe (b8 (b9 0) (b8 (b9 2) (b8 (b9 3) d4)))) (setAt 2)))
def xW:R->LD->V3 (Out×LD):=
 (Au 4 (d3 eY (b8 (b9 0) (b8 (b9 2) d4))))
def xu:R->LD->V3 (Out×LD):=(BM xP xW)
def lh:R->V3 Out:=
 (i7 (d3 eO (b8 (b9 0) d4)) (setAt 2))
def An:R->LD->V3 (Out×LD):=
 (A3 (qU (b9 1)) (setAt 3) xu)
def io:R->V3 Out:=
 (i5 (d3 tu (b8 (b9 4) d4)))
def om:R->V3 Out:=
 (i4 lh (Ft 4 d4 (uj An (wn io))))
def gc:LD->OD:=via 2 5 om
def s_(b:Bk)(s:WS):D:=.tup [.str (b.modes.getD s.mode default).face.x,.str (AE (b.modes.getD s.mode default).face s),.bl (decide (0<s.ring))]
def sights(b:Bk):WS->List Ev->LD
 | _,[]=>[]
 | s,e::es=>s_ b (gone b s e)::sights b (gone b s e) es
def Ro:Ev->Int
 | .ticks n=>n
 | _=>0
def BE:List Ev->Int
 | []=>0
 | e::es=>Ro e+BE es
def HE(d:rH)(h:0<=s.lm):(deed d s).lm<=s.lm:=by
 cases d<;>simp[deed,ya]<;>(repeat' split)<;>first | exact Int.le_refl _ | exact h
def zW(s:WS){n:Int}(h:0<=n):sC s n<=s.lm+n:=by unfold sC;split<;>omega
def IP(h:0<=s.lm):(turned b s).lm<=s.lm:=by
 unfold turned;split
 ·exact Int.le_refl _
 ·exact HE _ h
def Oq(w:s.Wk b)(e:Ev)(c:e.Ok):(gone b s e).lm<=s.lm+Ro e:=by
 have h:=w.lm0;cases e with
 | down x=>show(pushed s x).lm<=s.lm+0;unfold pushed;split<;>simp
 | up x =>
  show(letGo b s x).lm<=s.lm+0;rw[Int.add_zero];unfold letGo;split
  ·split
   ·split
    ·exact HE _ h
    ·exact Int.le_refl _
   ·exact Int.le_refl _
  ·exact Int.le_refl _
 | ticks n =>
  have f:1<=n:=c;show(ticked b s n).lm<=s.lm+n;unfold ticked;split
  ·exact zW s (by omega)
  ·rename_i t a
   have d:=uA a;split
   ·exact zW s (by omega)
   ·have a1:=zW (behind b s t) (n:=n - t) (by omega)
    have a2:(behind b s t).lm<=(counted b s t).lm:=IP (w.cnt (n:=t) (by omega)).lm0;have a3:(counted b s t).lm<=s.lm+t:=zW s (by omega);show sC (behind b s t) (n - t)<=_;omega
def Qa(h1:st d ρ=some ρ1)(b:p ρ1 ds=some (.nx ρ2,a)):wX st p (d::es) ρ ds=wX st p es ρ2 a:=by simp[wX,h1,b]
def Jw(ok:b.Ok)(w:s.Wk b)(e:Ev)(w2:(gone b s e).Wk b)(g:(gone b s e).lm<1000000000000000000)(ds:LD)(hd:ds.length<=1000) :
  xu [some b.d,a,some s.d,some e.d] ds=some (.nx [some b.d,a,some (gone b s e).d,some e.d],ds++[s_ b (gone b s e)]):=by
 have z:1001<=sizeLine:=by decide
 have f:xP [some b.d,a,some s.d,some e.d] ds=some (.nx [some b.d,a,some (gone b s e).d,some e.d],ds):=by
  show(i7 _ _ _).map _=_;rw[qO (d8 rfl (lN ok w e)) rfl];rfl
 have c:xW [some b.d,a,some (gone b s e).d,some e.d] ds=some (.nx [some b.d,a,some (gone b s e).d,some e.d],ds++[s_ b (gone b s e)]):=by
  show(d3 eY _ _).bind _=_;rw[d8 rfl (mV w2 g),Wa];exact Wc ⟨rfl,by omega⟩
 show BM _ _ _ ds=_;unfold BM;rw[f,Wa];exact c
theorem He:∀es:List Ev,(∀e∈es,e.Ok)->0<=BE es
 | [],_=>Int.le_refl _
 | e::es,h=>by
  have c:=He es λx a=>h x (.tail _ a)
  have b:=h e (.head _)
  have:0<=Ro e:=by
   cases e with
   | ticks n=>have:1<=n:=b;show 0<=n;omega
   | _=>exact Int.le_refl _
  show 0<=Ro e+BE es;omega
theorem CD(ok:b.Ok)(c:OD):∀(es:List Ev) (s:WS) (o:OD) (ds:LD),s.Ok b->(∀e∈es,e.Ok)->s.lm+BE es<1000000000000000000->ds.length+es.length<=1000 ->
  ∃a f,wX (setAt 3) xu (es.map Ev.d) [some b.d,c,some s.d,o] ds=some (.nx [some b.d,c,a,f],ds++sights b s es)
 | [],s,o,ds,_,_,_,_=>⟨some s.d,o,by show some (Out.nx _,ds)=some (Out.nx _,ds++[]);rw[WT]⟩
 | e::es,s,o,ds,w,h,hm,hl=>by
  have i:=h e (.head _);have w2:=wO ok w e i;have n:=Oq w.toWk e i;have l:s.lm+(Ro e+BE es)<1000000000000000000:=hm;have g:∀x∈es,x.Ok:=λx k=>h x (.tail _ k)
  have m:=He es g;rw[WH] at hl;obtain⟨a,f,j⟩:=CD ok c es (gone b s e) (some e.d) (ds++[s_ b (gone b s e)]) w2 g (by omega) (by simp;omega);refine⟨a,f,?_⟩;rw[Ww,Qa rfl (Jw ok w.toWk e w2.toWk (by omega) ds (by omega)),j,List.append_assoc];rfl
def lz(ok:b.Ok)(es:List Ev)(h:∀e∈es,e.Ok)(f:BE es<1000000000000000000)(g:es.length<=100):gc [b.d,.tup (es.map Ev.d)]=some (.tup (sights b qN es)):=by
 obtain⟨a,c,e⟩:=CD ok (some (.tup (es.map Ev.d))) es qN none [] (yc ok) h (by show 0+BE es<_;omega) (by simp;omega);refine k6 ((i6 (qO (d8 rfl (jN _)) rfl)).trans ?_);show uj An (wn io) [some b.d,some (.tup (es.map Ev.d)),some qN.d,none] []=_;have q:An [some b.d,some (.tup (es.map Ev.d)),some qN.d,none] []=some (.nx [some b.d,some (.tup (es.map Ev.d)),a,c],sights b qN es):=e;rw[Pf q];rfl
def bu(h1:qS (.str x)=true)(a:qS (.str y)=true):qS (.str (x++y))=true:=by
 rw[qS] at *
 show(x.cps++y.cps).all _=true;rw[Array.all_append,h1,a];rfl
def DZ(s:String):(Str.ofString s).cps.all (·<0x110000)=true:=by
 rw[PySem.Str.ofString_eq_toList];simp only[List.all_toArray,Xe,List.mem_map];rintro x ⟨c,_,rfl⟩;apply WP;show c.val.toNat<0x110000;have v:c.val.toNat<0xd800\/(0xdfff<c.val.toNat/\c.val.toNat<0x110000):=c.valid;omega
def iZ(n:Int):qS (.str (tx n))=true:=by
 rw[qS];exact DZ _
def eT(n:Int):qS (.str (ML n))=true:=by
 have h:=iZ n;rw[qS] at *
 unfold ML Pg;split
 ·exact h
 ·show(Array.replicate _ 48++(tx n).cps++Array.replicate _ 48).all _=true
  have r:∀k,(Array.replicate k 48).all (λx=>decide (x<0x110000))=true:=by
   intro k;rw[Array.all_eq_true];intro i a;simp
  rw[Array.all_append,Array.all_append,h,r,r];rfl
def dD:qS (.str colon)=true:=by rw[qS];decide +kernel
def jK:qS (.str (oS ""))=true:=by rw[qS];decide +kernel
def oW:qS (.str SH)=true:=by rw[qS];decide +kernel
def kM:qS (.str Ma)=true:=by rw[qS];decide +kernel
def iH(h m:Int):qS (.str (zg h m))=true:=bu (bu (eT _) dD) (eT _)
def jD(s:Int):qS (.str (Gq s))=true:=bu (bu (iZ _) dD) (eT _)
def kz(f:Face)(s:WS):qS (.str (AE f s))=true:=by
 cases f with
 | time=>exact bu (bu (iH _ _) dD) (eT _)
 | alarm=>exact bu (iH _ _) (by split;exact oW;exact jK)
 | laps=>exact bu (jD _) (by unfold EA;split;exact bu kM (iZ _);exact jK)
 | count=>exact jD _
def iS(f:Face):qS (.str f.x)=true:=by rw[qS];cases f<;>decide +kernel
def jW(b:Bk)(s:WS):qS (s_ b s)=true:=by
 unfold s_;rw[qS,q_,q_,q_,q_,iS,kz];rfl
theorem fj(b:Bk):∀(es:List Ev) (s:WS),q_ (sights b s es)=true
 | [],_=>rfl
 | e::es,s=>by
  show(qS (s_ b (gone b s e))&&q_ (sights b (gone b s e) es))=true;rw[jW,fj b es];rfl
theorem fq(b:Bk):∀(es:List Ev) (s:WS),rP (sights b s es)<=1
 | [],_=>W4 _
 | e::es,s=>by
  have a:=fq b es (gone b s e);show max (rZ (s_ b (gone b s e))) (rP (sights b (gone b s e) es))<=1;have:rZ (s_ b (gone b s e))=1:=rfl;omega
def Iy(b:Bk)(es:List Ev)(s:WS):uq (.tup (sights b s es)) (.tup (sights b s es))=some false:=by
 have:=fq b es s;exact vt (by show rP _+1<=100;omega) (by rw[qS];exact fj b es s)
def cj:R->V3 Out:=
 (i7 (d3 az (b8 (b9 0) d4)) (setAt 2))
def ci:R->V3 Out:=
 (i7 (d3 aL (b8 (b9 0) d4)) (setAt 3))
def ud:R->V3 Bool:=
 (i9 uQ (b9 2) (λ_=>some .non))
def uc:R->V3 LD:=
 (Dq (b9 2) (d6 n6 (b9 1) (kI 1)) (λ_=>some fH))
def wl:R->LD->V3 (Out×LD):=
  (MM (BQ (i9 uQ (b9 3) (λ_=>some .non)) (i9 F_ (b9 3) (b9 1)))
  (Au 4 (b9 3))
  zr)
def cB:R->V3 Out:=
 (i5 (d3 TC (b8 (b9 4) d4)))
def gw:R->V3 Out:=
 (i4 cj (i4 ci (Ft 4 d4 (uS 4 ud uc (uj wl (wn cB))))))
def aQ:LD->OD:=via 2 5 gw
def Ic(n:Int)(o:V3 Int):List Int:=match o with
 | some a=>(List.range (sr a (n+1) 86400)).map λ(k:Nat)=>a+(k:Int)*86400
 | none=>[]
def IM(n:Int)(o:V3 Int):List Int:=match o with
 | some c=>if c<=n then [c] else []
 | none=>[]
def tK(s:WS)(n:Int):List Int:=sG (zM (Ic n (qT s)++IM n (qR s)))
theorem xx:∀l:List Int,intsOf (l.map D.int)=some l
 | []=>rfl
 | i::l=>by show(intsOf (l.map D.int)).map _=_;rw[xx l];rfl
def DG{a n:Int}(h1:1<=a)(b:n<259200):sr a (n+1) 86400<=3:=by
 unfold sr;split<;>omega
def P5(e:ds=a.map D.int)(h:a.length<=4):TC [.lst ds]=some (.lst ((sG (zM a)).map D.int)):=by
 subst e;show(intsOf _).bind _=_;rw[xx];exact Wc h
def Tc{i:Nat}(h1:s ρ=some true)(c:f ρ=some es)(b:ρ.length=i)(a:es.length<=1000):uS i s f w ρ ds=w ρ es:=by
 unfold uS;rw[h1];show(f ρ).bind _=_;rw[c];exact Wc ⟨b,a⟩
def SC{i:Nat}(h1:s ρ=some false):uS i s f w ρ ds=w ρ ds:=by
 unfold uS;rw[h1];rfl
def Bi{a:Int}(h:qT s=some a):1<=a/\a<=86400:=by
 unfold qT at h;split at h
 ·cases h;omega
 ·cases h
def gG(s:WS){n:Int}(h0:0<=n)(b:n<259200):aQ [s.d,.int n]=some (.lst ((tK s n).map .int)):=by
 have r:=dA s;have q:=dg s;have g:∀a,qT s=some a->1<=a/\a<=86400:=λa h=>Bi h
 unfold tK;generalize qT s=a at *
 generalize qR s=c at *
 have m:cj [some s.d,some (.int n),none,none,none]=some (.nx [some s.d,some (.int n),some (rN a),none,none]):=qO (d8 rfl r) rfl;have l:ci [some s.d,some (.int n),some (rN a),none,none]=some (.nx [some s.d,some (.int n),some (rN a),some (rN c),none]):=qO (d8 rfl q) rfl
 have k:∀w,uS 4 ud uc w [some s.d,some (.int n),some (rN a),some (rN c)] []=w [some s.d,some (.int n),some (rN a),some (rN c)] ((Ic n a).map D.int):=λw=>by
  cases a with
  | none=>exact SC rfl
  | some a =>
   obtain⟨a1,a2⟩:=g a rfl;have f:=DG a1 b
   have e:vB a (n+1) 86400=(Ic n (some a)).map D.int:=by
    show _=((List.range _).map _).map _;rw[List.map_map];rfl
   rw[<- e];refine Tc rfl ?_ rfl ?_
   ·show(if -(2 ^ 60)<=a/\a<2 ^ 60 /\ -(2 ^ 60)<=n+1/\n+1<2 ^ 60/\(0:Int)<86400/\(86400:Int)<1073741824 then some (vB a (n+1) 86400) else none)=_
    rw[Wc ⟨by omega,by omega,by omega,by omega,by decide,by decide⟩]
   ·unfold vB;rw[V9,List.length_range];omega
 have p:(Ic n a).length<=3:=by
  cases a with
  | none=>exact W4 _
  | some a =>
   obtain⟨a1,a2⟩:=g a rfl;have f:=DG a1 b;unfold Ic;rw[V9,List.length_range];exact f
 have o:(IM n c).length<=1:=by
  unfold IM;split
  ·split<;>simp
  ·decide
 have j:wl [some s.d,some (.int n),some (rN a),some (rN c)] ((Ic n a).map D.int)=some (.nx [some s.d,some (.int n),some (rN a),some (rN c)],(Ic n a++IM n c).map D.int):=by
  rw[Xb];cases c with
  | none =>
   refine(LH (Vj rfl)).trans ?_;show some (_,_)=some (_,_++[]);rw[WT]
  | some c =>
   by_cases h:c<=n
   ·refine(NP (TK rfl (si (x:=.int c) (y:=.int n) rfl rfl (dT h)))).trans ?_
    show(if 4=4/\((Ic n a).map D.int).length<sizeLine then _ else none)=_;rw[Wc ⟨rfl,by rw[V9,PySem.sizeLine_eq];omega⟩];unfold IM;dsimp only;rw[Wc h];rfl
   ·refine(LH (TK rfl (si (x:=.int c) (y:=.int n) rfl rfl (dF h)))).trans ?_
    unfold IM;dsimp only;rw[Wu h];show some (_,_)=some (_,_++[]);rw[WT]
 have i:cB [some s.d,some (.int n),some (rN a),some (rN c),some (.lst ((Ic n a++IM n c).map D.int))]=some (.rt (.lst ((sG (zM (Ic n a++IM n c))).map D.int))):=
  retS (d8 rfl (P5 rfl (by rw[WB];omega)))
 refine k6 ((i6 m).trans ((i6 l).trans ?_));show uS 4 ud uc _ [some s.d,some (.int n),some (rN a),some (rN c)] []=_;rw[k,Pf j];exact i
def bW{n:Int}(b:n<259200):(tK s n).length<=4:=by
 unfold tK;rw[(su _).length_eq];refine WD (x9 _ []) ?_
 have d:(Ic n (qT s)).length<=3:=by
  cases h:qT s with
  | none=>exact W4 _
  | some a =>
   have e:=DG (Bi h).1 b;unfold Ic;rw[V9,List.length_range];exact e
 have c:(IM n (qR s)).length<=1:=by
  unfold IM;split
  ·split<;>simp
  ·decide
 rw[List.length_nil,WB];omega
def Aa(h1:st d ρ=some ρ1)(b:p ρ1 ds=some (.nx ρ2,a)):wX st p (d::es) ρ ds=wX st p es ρ2 a:=by
 show(st d ρ).bind _=_;rw[h1];show(p ρ1 ds).bind _=_;rw[b];rfl
def g_:R->V3 Out:=
 (i5 (Ha (i9 xZ (d6 e8 (b9 0) (λ_=>some aR)) (λ_=>some .non)) (kS "back") (NV Tz (d6 e8 (d6 e8 (b9 0) (λ_=>some aR)) (kI 0)))))
def cy:LD->OD:=via 1 1 g_
def vW(s:WS):Str:=match s.held with
 | none=>oS "back"
 | some (x,_)=>x.X
def iB(s:WS):cy [s.d]=some (.str (vW s)):=by
 have a:=w6 s;unfold vW;rcases hs:s.held with _ | ⟨x,k⟩<;>rw[hs] at a
 ·exact k6 (retS (Oc (si (i3 rfl rfl a) rfl rfl) rfl))
 ·exact k6 (retS (Od (si (i3 rfl rfl a) rfl rfl) (T4 (i3 (i3 rfl rfl a) rfl (h0 x k)) (Sr x))))
def sW:R->LD->V3 (Out×LD):=
  (MM (i9 FT (d6 e8 (b9 3) (kI 0)) (kI 0))
  (Au 4 (l9 (b8 (d6 e8 (b9 3) (kI 0)) (b8 (d3 cy (b8 (b9 1) d4)) d4))))
  zr)
def sR:R->LD->V3 (Out×LD):=
 (y8 4 (uh 1 (qU (d3 aQ (b8 (d6 e8 (b9 3) (kI 1)) (b8 (d6 e8 (b9 3) (kI 2)) d4)))) (setAt 0) rF (l9 (b8 (d6 n6 (d6 e8 (b9 4) (kI 0)) (b9 0)) (b8 (kS "ring") d4)))))
def rB:R->LD->V3 (Out×LD):=(BM sW sR)
def rR:R->LD->V3 (Out×LD):=
 (A3 (qU (d3 aW (b8 (b9 0) (b8 (b9 1) (b8 (b9 2) d4))))) (setAt 3) rB)
def br:R->V3 Out:=
 (i5 (b9 4))
def du:R->V3 Out:=
 (Ft 4 d4 (uj rR (wn br)))
def aZ:LD->OD:=via 3 5 du
abbrev IL:=Int×Str
def rE(p:IL):D:=.tup [.int p.1,.str p.2]
def CT:Str:=oS "ring"
def DP(k:Int)(l:List Int):List IL:=l.map λi=>(k+i,CT)
def yW(b:Bk)(s:WS)(n:Int):List IL:=match n9 b s with
 | none=>DP 0 (tK s n)
 | some t=>if n<t then DP 0 (tK s n) else DP 0 (tK s t)++((t,vW s)::DP t (tK (behind b s t) (n - t)))
theorem jE(k:Int)(a b c:OD)(x y:D):∀l:List Int,rh (setAt 0) rF (l9 (b8 (d6 n6 (d6 e8 (b9 4) (kI 0)) (b9 0)) (b8 (kS "ring") d4))) (l.map D.int) [none,a,b,c,some (.tup [.int k,x,y])]=some ((DP k l).map rE)
 | []=>rfl
 | i::l=>by
  have d:=jE k a b c x y l;show(rh _ _ _ (l.map D.int) _).map (λr=>D.tup [.int (k+i),.str (oS "ring")]::r)=_;rw[d];rfl
def Ay{k:Int}(s0 s:WS){n:Int}(ds:LD)(hd:ds.length<=10)(f:0<=n)(g:n<259200) :
  rB [a,some s0.d,c,some (.tup [.int k,s.d,.int n])] ds=some (.nx [a,some s0.d,c,some (.tup [.int k,s.d,.int n])],ds++(if 0<k then [rE (k,vW s0)] else [])++(DP k (tK s n)).map rE):=by
 have o:=bW (s:=s) g;have e:=gG s f g;have m:=iB s0;have z:100<=sizeLine:=by decide
 have j:sW [a,some s0.d,c,some (.tup [.int k,s.d,.int n])] ds=some (.nx [a,some s0.d,c,some (.tup [.int k,s.d,.int n])],ds++(if 0<k then [rE (k,vW s0)] else [])):=by
  by_cases b:0<k
  ·rw[Wc b]
   refine(NP (si (x:=.int k) (y:=.int 0) (i3 rfl rfl rfl) rfl (dT b))).trans ?_;show(l9 _ _).bind _=_;rw[tupS (qM (i3 rfl rfl rfl) (qM (d8 rfl m) rfl)),Wa];exact Wc ⟨rfl,by omega⟩
  ·rw[Wu b,WT]
   exact LH (si (x:=.int k) (y:=.int 0) (i3 rfl rfl rfl) rfl (dF b))
 have l:(ds++(if 0<k then [rE (k,vW s0)] else [])).length<=11:=by
  rw[WB];have:(if 0<k then [rE (k,vW s0)] else []).length<=1:=by split<;>simp
  omega
 generalize ds++(if 0<k then [rE (k,vW s0)] else [])=ds1 at *
 have q:qU (d3 aQ (b8 (d6 e8 (b9 3) (kI 1)) (b8 (d6 e8 (b9 3) (kI 2)) d4))) [a,some s0.d,c,some (.tup [.int k,s.d,.int n])]=some ((tK s n).map D.int):=by
  show(d3 aQ _ _).bind _=_;rw[d8 (ds:=[s.d,.int n]) (qM (i3 rfl rfl rfl) (qM (i3 rfl rfl rfl) rfl)) e];rfl
 have i:uh 1 (qU (d3 aQ (b8 (d6 e8 (b9 3) (kI 1)) (b8 (d6 e8 (b9 3) (kI 2)) d4)))) (setAt 0) rF (l9 (b8 (d6 n6 (d6 e8 (b9 4) (kI 0)) (b9 0)) (b8 (kS "ring") d4))) [a,some s0.d,c,some (.tup [.int k,s.d,.int n])]=some (.lst ((DP k (tK s n)).map rE)):=by
  unfold uh;rw[q,Wa,Wc (by rw[V9];omega)];show(rh _ _ _ _ [none,a,some s0.d,c,_]).map _=_;rw[jE];rfl
 have h:sR [a,some s0.d,c,some (.tup [.int k,s.d,.int n])] ds1=some (.nx [a,some s0.d,c,some (.tup [.int k,s.d,.int n])],ds1++(DP k (tK s n)).map rE):=by
  show y8 4 _ _ ds1=_;unfold y8;rw[i,Wa];exact Wc ⟨rfl,by rw[V9,DP,V9];omega⟩
 show BM _ _ _ ds=_;unfold BM;rw[j,Wa];exact h
def K9(b:Bk)(s:WS){n:Int}(c:n<259200):(yW b s n).length<=9:=by
 have h0:=bW (s:=s) c;unfold yW;cases a:n9 b s with
 | none=>simp[DP];omega
 | some t =>
  have d:=uA a;dsimp only;split
  ·simp[DP];omega
  ·have h1:=bW (s:=s) (n:=t) (by omega)
   have e:=bW (s:=behind b s t) (n:=n - t) (by omega);simp[DP];omega
def de{n:Int}(ok:b.Ok)(w:s.Wk b)(e:0<=n)(j:n<259200):aZ [b.d,s.d,.int n]=some (.lst ((yW b s n).map rE)):=by
 have k:=d_ n ok w
 have key:∃x,rR [some b.d,some s.d,some (.int n),none] []=some (.nx [some b.d,some s.d,some (.int n),some x],(yW b s n).map rE):=by
  have f:qU (d3 aW (b8 (b9 0) (b8 (b9 1) (b8 (b9 2) d4)))) [some b.d,some s.d,some (.int n),none]=some (tP b s n):=by
   show(d3 aW _ _).bind _=_;rw[d8 rfl k];rfl
  have q:rR [some b.d,some s.d,some (.int n),none] []=wX (setAt 3) rB (tP b s n) [some b.d,some s.d,some (.int n),none] []:=by
   show(qU _ _).bind _=_;rw[f];rfl
  rw[q]
  have a:∀x:D,x=.tup [.int 0,s.d,.int n]->wX (setAt 3) rB [x] [some b.d,some s.d,some (.int n),none] []=some (.nx [some b.d,some s.d,some (.int n),some x],(DP 0 (tK s n)).map rE):=λx g=>by
   subst g;rw[Aa rfl (Ay s s [] (W4 _) e j)];rfl
  unfold tP yW;cases h:n9 b s with
  | none=>exact⟨_,a _ rfl⟩
  | some t =>
   dsimp only;by_cases c:n<t
   ·rw[Wc c,Wc c];exact⟨_,a _ rfl⟩
   ·rw[Wu c,Wu c]
    have i:=uA h;have l:=bW (s:=s) (n:=t) (by omega);refine⟨.tup [.int t,(behind b s t).d,.int (n - t)],?_⟩;rw[Aa rfl (Ay s s [] (W4 _) (by omega) (by omega)),Aa rfl (Ay s (behind b s t) _ ?_ (by omega) (by omega)),Wc (show 0<t by omega),Wu (show ¬ (0:Int)<0 by decide)]
    ·simp only[Xr,Xb,Ww,List.append_assoc,List.cons_append];rfl
    ·rw[Wu (show ¬ (0:Int)<0 by decide)]
     simp[DP];omega
 obtain⟨x,key⟩:=key;refine k6 ?_;show uj rR (wn br) [some b.d,some s.d,some (.int n),none] []=_;rw[Pf key];rfl
def gt:R->V3 Out:=
  (i4 (uG (i9 zo (d6 e8 (b9 2) (kI 0)) (kS "ticks"))
  (i5 (d3 aZ (b8 (b9 0) (b8 (b9 1) (b8 (d6 e8 (b9 2) (kI 1)) d4)))))
  qZ)
  (i4 (uG (BQ (i9 zo (d6 e8 (b9 2) (kI 0)) (kS "up")) (tQ (d3 bG (b8 (b9 1) (b8 (d6 e8 (b9 2) (kI 1)) d4)))))
  (i5 (x3 (b8 (l9 (b8 (kI 0) (b8 (d6 e8 (b9 2) (kI 1)) d4))) d4)))
  qZ)
  (i5 (x3 d4))))
def ay:LD->OD:=via 3 3 gt
def Ji(s:WS)(x:vv):Bool:=match s.held with
 | some (y,k)=>decide (y=x)&&k.isSome
 | none=>false
def Ii(b:Bk)(s:WS):Ev->List IL
 | .ticks n=>yW b s n
 | .up x=>if Ji s x then [(0,x.x)] else []
 | .down _=>[]
def MN:Ev->Int
 | .ticks n=>n
 | _=>0
def zA:Ev->Prop
 | .ticks n=>1<=n/\n<259200
 | _=>True
def O9:zo (.str (oS "down")) (.str (oS "ticks"))=some false:=rfl
def J4:zo (.str (oS "up")) (.str (oS "ticks"))=some false:=rfl
def Ph:zo (.str (oS "ticks")) (.str (oS "ticks"))=some true:=rfl
def R_:zo (.str (oS "down")) (.str (oS "up"))=some false:=rfl
def gJ(ok:b.Ok)(w:s.Wk b)(e:Ev)(h:zA e):ay [b.d,s.d,e.d]=some (.lst ((Ii b s e).map rE)):=by
 cases e with
 | down x=>exact k6 ((i6 (v5 (si (i3 rfl rfl rfl) rfl O9))).trans ((i6 (v5 (Vj (si (i3 rfl rfl rfl) rfl R_)))).trans (retS rfl)))
 | ticks n=>exact k6 (um ((yU (si (i3 rfl rfl rfl) rfl Ph)).trans (retS (d8 (qM rfl (qM rfl (qM (i3 rfl rfl rfl) rfl))) (de ok w (by have:=h.1;omega) h.2)))))
 | up x =>
  have e:=fD s x;have a:bG [s.d,.str x.x]=some (.bl (Ji s x)):=e;show ay [b.d,s.d,(Ev.up x).d]=some (.lst ((if Ji s x then [((0:Int),x.x)] else []).map rE));cases c:Ji s x with
  | false =>
   rw[c] at a;exact k6 ((i6 (v5 (si (i3 rfl rfl rfl) rfl J4))).trans ((i6 (v5 (TK (si (i3 rfl rfl rfl) rfl F4) (Em (d8 (qM rfl (qM (i3 rfl rfl rfl) rfl)) a))))).trans (retS rfl)))
  | true =>
   rw[c] at a;exact k6 ((i6 (v5 (si (i3 rfl rfl rfl) rfl J4))).trans (um ((yU (TK (si (i3 rfl rfl rfl) rfl F4) (Em (d8 (qM rfl (qM (i3 rfl rfl rfl) rfl)) a)))).trans (retS (RZ (qM (tupS (qM rfl (qM (i3 rfl rfl rfl) rfl))) rfl))))))
def xg:R->LD->V3 (Out×LD):=
 (y8 5 (uh 1 (qU (d3 ay (b8 (b9 0) (b8 (b9 2) (b8 (b9 4) d4))))) (setAt 0) rF (l9 (b8 (d6 n6 (b9 4) (d6 e8 (b9 0) (kI 0))) (b8 (d6 e8 (b9 0) (kI 1)) d4)))))
def BG:R->LD->V3 (Out×LD):=
  (xa (i4 (i7 (d3 fe (b8 (b9 0) (b8 (b9 2) (b8 (b9 4) d4)))) (setAt 2))
  (uG (i9 zo (d6 e8 (b9 4) (kI 0)) (kS "ticks"))
  (i7 (d6 n6 (b9 3) (d6 e8 (b9 4) (kI 1))) (setAt 3))
  qZ)))
def wf:R->LD->V3 (Out×LD):=(BM xg BG)
def kD:R->V3 Out:=
 (i7 (d3 eO (b8 (b9 0) d4)) (setAt 2))
def j_:R->V3 Out:=
 (i7 (kI 0) (setAt 3))
def y4:R->LD->V3 (Out×LD):=
 (A3 (qU (b9 1)) (setAt 4) wf)
def fT:R->V3 Out:=
 (i5 (d3 tu (b8 (b9 5) d4)))
def mM:R->V3 Out:=
 (i4 kD (i4 j_ (Ft 5 d4 (uj y4 (wn fT)))))
def eV:LD->OD:=via 2 6 mM
def t_(b:Bk):WS->Int->List Ev->List IL
 | _,_,[]=>[]
 | s,k,e::es=>(Ii b s e).map (λp=>(k+p.1,p.2))++t_ b (gone b s e) (k+MN e) es
def Dn(b:Bk)(s:WS)(h:zA e):(Ii b s e).length<=9:=by
 cases e with
 | ticks n=>exact K9 b s h.2
 | up x=>show(if Ji s x then [((0:Int),x.x)] else []).length<=9;split<;>simp
 | down x=>exact W4 _
theorem ip(k:Int)(a b c e:OD):∀l:List IL,rh (setAt 0) rF (l9 (b8 (d6 n6 (b9 4) (d6 e8 (b9 0) (kI 0))) (b8 (d6 e8 (b9 0) (kI 1)) d4))) (l.map rE) [none,a,b,c,some (.int k),e]=some ((l.map λp=>(k+p.1,p.2)).map rE)
 | []=>rfl
 | i::l=>by
  have d:=ip k a b c e l;show(rh _ _ _ (l.map rE) _).map (λr=>D.tup [.int (k+i.1),.str i.2]::r)=_;rw[d];rfl
def GP(ok:b.Ok)(w:s.Wk b){k:Int}(e:Ev)(h:zA e)(ds:LD)(hd:ds.length<=1000) :
  wf [some b.d,a,some s.d,some (.int k),some e.d] ds=some (.nx [some b.d,a,some (gone b s e).d,some (.int (k+MN e)),some e.d],ds++((Ii b s e).map λp=>(k+p.1,p.2)).map rE):=by
 have j:=gJ ok w e h;have i:=lN ok w e;have l:=Dn b s h;have z:2000<=sizeLine:=by decide
 have q:qU (d3 ay (b8 (b9 0) (b8 (b9 2) (b8 (b9 4) d4)))) [some b.d,a,some s.d,some (.int k),some e.d]=some ((Ii b s e).map rE):=by
  show(d3 ay _ _).bind _=_;rw[d8 rfl j];rfl
 have g:uh 1 (qU (d3 ay (b8 (b9 0) (b8 (b9 2) (b8 (b9 4) d4))))) (setAt 0) rF (l9 (b8 (d6 n6 (b9 4) (d6 e8 (b9 0) (kI 0))) (b8 (d6 e8 (b9 0) (kI 1)) d4))) [some b.d,a,some s.d,some (.int k),some e.d]=some (.lst (((Ii b s e).map λp=>(k+p.1,p.2)).map rE)):=by
  unfold uh;rw[q,Wa,Wc (by rw[V9];omega)];show(rh _ _ _ _ [none,some b.d,a,some s.d,_,_]).map _=_;rw[ip];rfl
 have f:xg [some b.d,a,some s.d,some (.int k),some e.d] ds=some (.nx [some b.d,a,some s.d,some (.int k),some e.d],ds++((Ii b s e).map λp=>(k+p.1,p.2)).map rE):=by
  show y8 5 _ _ ds=_;unfold y8;rw[g,Wa];exact Wc ⟨rfl,by rw[V9,V9];omega⟩
 have c:i4 (i7 (d3 fe (b8 (b9 0) (b8 (b9 2) (b8 (b9 4) d4)))) (setAt 2)) (uG (i9 zo (d6 e8 (b9 4) (kI 0)) (kS "ticks")) (i7 (d6 n6 (b9 3) (d6 e8 (b9 4) (kI 1))) (setAt 3)) qZ) [some b.d,a,some s.d,some (.int k),some e.d]=some (.nx [some b.d,a,some (gone b s e).d,some (.int (k+MN e)),some e.d]):=by
  refine(i6 (qO (d8 rfl i) rfl)).trans ?_;cases e with
  | ticks n=>exact(yU (si (i3 rfl rfl rfl) rfl Ph)).trans (qO (i3 rfl (i3 rfl rfl rfl) rfl) rfl)
  | up x=>rw[show k+MN (.up x)=k from Int.add_zero k];exact v5 (si (i3 rfl rfl rfl) rfl J4)
  | down x=>rw[show k+MN (.down x)=k from Int.add_zero k];exact v5 (si (i3 rfl rfl rfl) rfl O9)
 show BM _ _ _ ds=_;unfold BM;rw[f,Wa];show xa _ _ _=_;unfold xa;rw[c];rfl
theorem AJ(ok:b.Ok)(c:OD):∀(es:List Ev) (s:WS) (k:Int) (o:OD) (ds:LD),s.Ok b->(∀e∈es,e.Ok/\zA e)->ds.length+9*es.length<=1000 ->
  ∃a g f,wX (setAt 4) wf (es.map Ev.d) [some b.d,c,some s.d,some (.int k),o] ds=some (.nx [some b.d,c,a,g,f],ds++(t_ b s k es).map rE)
 | [],s,k,o,ds,_,_,_=>⟨some s.d,some (.int k),o,by show some (Out.nx _,ds)=some (Out.nx _,ds++[]);rw[WT]⟩
 | e::es,s,k,o,ds,w,h,hl=>by
  obtain⟨h1,i⟩:=h e (.head _);have m:=Dn b s i;rw[WH] at hl;obtain⟨a,g,f,j⟩:=AJ ok c es (gone b s e) (k+MN e) (some e.d) (ds++((Ii b s e).map λp=>(k+p.1,p.2)).map rE) (wO ok w e h1) (λx l=>h x (.tail _ l)) (by simp;omega);refine⟨a,g,f,?_⟩;rw[Ww,Aa rfl (GP ok w.toWk e i ds (by omega)),j,List.append_assoc,<- Xb];rfl
def jP(ok:b.Ok)(es:List Ev)(h:∀e∈es,e.Ok/\zA e)(g:es.length<=100):eV [b.d,.tup (es.map Ev.d)]=some (.tup ((t_ b qN 0 es).map rE)):=by
 obtain⟨a,f,c,e⟩:=AJ ok (some (.tup (es.map Ev.d))) es qN 0 none [] (yc ok) h (by simp;omega);refine k6 ((i6 (qO (d8 rfl (jN _)) rfl)).trans ((i6 (qO rfl rfl)).trans ?_));show uj y4 (wn fT) [some b.d,some (.tup (es.map Ev.d)),some qN.d,some (.int 0),none] []=_;have q:y4 [some b.d,some (.tup (es.map Ev.d)),some qN.d,some (.int 0),none] []=some (.nx [some b.d,some (.tup (es.map Ev.d)),a,f,c],(t_ b qN 0 es).map rE):=e;rw[Pf q];rfl
def fK:R->V3 Out:=
  (i4 (uG (i9 RW (b9 1) (d3 rY (b8 (b9 0) d4)))
  (i5 (d6 e8 (b9 0) (b9 1)))
  qZ)
  (i5 (kI 0)))
def bH:LD->OD:=via 2 2 fK
def IJ(a:List Int)(k:Int)(h0:0<=k):∃c,bH [.fro (a.map .int),.int k]=some (.int c):=by
 obtain⟨n,rfl⟩:=Int.eq_ofNat_of_zero_le h0;by_cases h1:(n:Int)<((a.map D.int).length:Int)
 ·have b:n<(a.map D.int).length:=Int.ofNat_lt.mp h1
  have d:n<a.length:=by rw[V9] at b;exact b
  refine⟨a[n],k6 (um ((yU (si rfl (d8 (F:=rY) rfl rfl) (dT h1))).trans (retS (i3 rfl rfl ?_))))⟩;exact(C_ b).trans (by rw[List.getElem_map])
 ·exact⟨0,k6 ((i6 (v5 (si rfl (d8 (F:=rY) rfl rfl) (dF h1)))).trans (retS rfl))⟩
def gx:R->V3 Out:=
  (i4 (i7 (d6 rn (d6 wx (d6 n6 (d6 n6 (d3 bH (b8 (b9 0) (b8 (b9 1) d4))) (d6 wx (kI 7919) (b9 1))) (kI 1)) (kI 48271)) (kI 2147483647)) (setAt 2))
  (i5 (d6 rn (d6 n6 (d6 n6 (d6 wx (b9 2) (b9 2)) (d6 wx (kI 7) (b9 2))) (b9 1)) (kI 2147483629))))
def aO:LD->OD:=via 2 3 gx
def xo(b:List Int)(k:Int)(h0:0<=k):∃m,aO [.fro (b.map .int),.int k]=some (.int m)/\0<=m:=by
 obtain⟨c,d⟩:=IJ b k h0;generalize a:(c+7919*k+1)*48271%2147483647=q;have f:0<=q:=by rw[<- a];exact WZ _ (by decide)
 have e:q<2147483647:=by rw[<- a];exact WW _ (by decide)
 have m1:rQ 7919 k=true:=tO (by decide) (by decide);have m2:rQ (c+7919*k+1) 48271=true:=CH (by decide) (by decide);have m3:rQ q q=true:=tO (by omega) (by omega);have m4:rQ 7 q=true:=tO (by decide) (by decide);refine⟨(q*q+7*q+k)%2147483629,?_,WZ _ (by decide)⟩;exact k6 ((i6 (qO (i3 (i3 (i3 (i3 (d8 rfl d) (i3 rfl rfl (Ez m1)) rfl) rfl rfl) rfl (Ez m2)) rfl (U_ (by decide) a)) rfl)).trans (retS (i3 (i3 (i3 (i3 rfl rfl (Ez m3)) (i3 rfl rfl (Ez m4)) rfl) rfl rfl) rfl (modS (by decide)))))
def gW:R->V3 Out:=
  (i4 (i7 (d6 rn (d6 wx (d6 n6 (d6 n6 (b9 0) (d6 wx (kI 104729) (b9 1))) (kI 17)) (kI 69621)) (kI 2147483647)) (setAt 2))
  (i5 (d6 rn (d6 n6 (d6 n6 (d6 wx (b9 2) (b9 2)) (d6 wx (kI 3) (b9 2))) (b9 1)) (kI 2147483629))))
def aq:LD->OD:=via 2 3 gW
def xt(n k:Int):Int:=((n+104729*k+17)*69621%2147483647*((n+104729*k+17)*69621%2147483647)+3*((n+104729*k+17)*69621%2147483647)+k)%2147483629
def xj(n k:Int):aq [.int n,.int k]=some (.int (xt n k)):=by
 unfold xt;generalize a:(n+104729*k+17)*69621%2147483647=q;have c:0<=q:=by rw[<- a];exact WZ _ (by decide)
 have b:q<2147483647:=by rw[<- a];exact WW _ (by decide)
 have m1:rQ 104729 k=true:=tO (by decide) (by decide);have m2:rQ (n+104729*k+17) 69621=true:=CH (by decide) (by decide);have m3:rQ q q=true:=tO (by omega) (by omega);have m4:rQ 3 q=true:=tO (by decide) (by decide);exact k6 ((i6 (qO (i3 (i3 (i3 (i3 rfl (i3 rfl rfl (Ez m1)) rfl) rfl rfl) rfl (Ez m2)) rfl (U_ (by decide) a)) rfl)).trans (retS (i3 (i3 (i3 (i3 rfl rfl (Ez m3)) (i3 rfl rfl (Ez m4)) rfl) rfl rfl) rfl (modS (by decide)))))
def iC:R->V3 Out:=
  (i4 (i7 (d6 n6 (kI 1) (d6 rn (b9 0) (kI 8))) (setAt 1))
  (i4 (i7 (l9 (b8 (kS "none") (b8 (kS "hour") (b8 (kS "minute") (b8 (kS "zero") (b8 (kS "ahour") (b8 (kS "aminute") (b8 (kS "alarm") (b8 (kS "run") (b8 (kS "lap") (b8 (kS "cminute") (b8 (kS "csecond") (b8 (kS "full") d4))))))))))))) (setAt 2))
  (i4 (i7 (l9 d4) (setAt 3))
  (i4 (yh (rj (b9 1)) (setAt 4)
  (i4 (i7 (d6 uz (d3 aq (b8 (b9 0) (b8 (b9 4) d4))) (kI 4)) (setAt 5))
  (i4 (i7 (l9 d4) (setAt 6))
  (i4 (yh (rj (kI 6)) (setAt 7)
  (i4 (i7 (d6 uz (d3 aq (b8 (b9 5) (b8 (d6 n6 (kI 10) (b9 7)) d4))) (kI 4)) (setAt 8))
  (i7 (d6 n6 (b9 6) (l9 (b8 (l9 (b8 (d6 e8 (d6 n6 (b9 2) (l9 (b8 (kS "count") d4))) (d6 rn (b9 8) (kI 13))) (b8 (d6 rn (d6 uz (b9 8) (kI 16)) (b9 1)) d4))) d4))) (setAt 6))))
  (i4 (i7 (d6 e8 (l9 (b8 (kS "time") (b8 (kS "alarm") (b8 (kS "laps") (b8 (kS "count") d4))))) (d6 rn (b9 5) (kI 4))) (setAt 9))
  (i7 (d6 n6 (b9 3) (l9 (b8 (l9 (b8 (b9 9) (b8 (zJ (i9 zo (d6 rn (d6 uz (b9 5) (kI 4)) (kI 2)) (kI 0))) (b8 (b9 6) d4)))) d4))) (setAt 3)))))))
  (i5 (l9 (b8 (d6 n6 (kI 1) (d6 rn (d6 uz (b9 0) (kI 8)) (d6 e8 (l9 (b8 (kI 3) (b8 (kI 9) d4))) (d6 rn (d6 uz (b9 0) (kI 128)) (kI 2))))) (b8 (d6 e8 (l9 (b8 (kI 0) (b8 (kI 7) (b8 (kI 60) (b8 (kI 1) (b8 (kI 20) d4)))))) (d6 rn (d6 uz (b9 0) (kI 256)) (kI 5))) (b8 (b9 3) d4)))))))))
def ce:LD->OD:=via 1 10 iC
def rS:LD:=[.str (oS "none"),.str (oS "hour"),.str (oS "minute"),.str (oS "zero"),.str (oS "ahour"),.str (oS "aminute"),.str (oS "alarm"),.str (oS "run"),.str (oS "lap"),.str (oS "cminute"),.str (oS "csecond"),.str (oS "full")]
def ES:∀x∈x8,oneOf x x8=true/\Fits x:=by
 intro x a;simp only[x8,Wo,List.not_mem_nil,or_false] at a;rcases a with h | h | h | h | h | h | h | h | h | h | h | h | h<;>subst h<;>exact⟨by decide,.str _⟩
def Fz:∀x∈Bo,oneOf x Bo=true/\Fits x:=by
 intro x a;simp only[Bo,Wo,List.not_mem_nil,or_false] at a;rcases a with h | h | h | h<;>subst h<;>exact⟨by decide,.str _⟩
def zU:R->V3 Out:=(i4 (i7 (d6 uz (d3 aq (b8 (b9 5) (b8 (d6 n6 (kI 10) (b9 7)) d4))) (kI 4)) (setAt 8))
 (i7 (d6 n6 (b9 6) (l9 (b8 (l9 (b8 (d6 e8 (d6 n6 (b9 2) (l9 (b8 (kS "count") d4))) (d6 rn (b9 8) (kI 13))) (b8 (d6 rn (d6 uz (b9 8) (kI 16)) (b9 1)) d4))) d4))) (setAt 6)))
def sz{n:Nat}(h:n<=1000):n<=sizeLine:=WD h (by decide)
def lL{N m:Int}{q j:Int}(g:0<m)(t:rs.length<=100)(u:∀x∈rs,yi x m=true/\Fits x) :
  ∃o r,zU [some (.int N),some (.int m),some (.tup rS),some (.tup ms),a,some (.int q),some (.tup rs),some (.int j),b,f]=some (.nx [some (.int N),some (.int m),some (.tup rS),some (.tup ms),a,some (.int q),some (.tup (rs++[r])),some (.int j),o,f])/\yi r m=true/\Fits r:=by
 generalize hz:xt q (10+j) / 4=z;obtain⟨x,e,c⟩:=xU (xs:=x8) (i:=z%13) (WZ _ (by decide)) (WW _ (by decide));have w0:0<=z / 16%m:=WZ _ (by omega);have w1:z / 16%m<m:=WW _ g;have n:rs.length+1<=sizeLine:=sz (by omega);have hd:rS++[.str (oS "count")]=x8:=rfl;have l:rS.length+1<=sizeLine:=by decide
 refine⟨some (.int z),.tup [x,.int (z / 16%m)],?_,?_,?_⟩
 ·have s:n6 (.tup rS) (.tup [.str (oS "count")])=some (.tup x8):=by
   show(if rS.length+1<=sizeLine then some (D.tup (rS++[.str (oS "count")])) else none)=_;rw[Wc l,hd]
  have p:n6 (.tup rs) (.tup [.tup [x,.int (z / 16%m)]])=some (.tup (rs++[.tup [x,.int (z / 16%m)]])):=by
   show(if rs.length+1<=sizeLine then _ else none)=_;rw[Wc n]
  have k:uz (.int (xt q (10+j))) (.int 4)=some (.int z):=by rw[<- hz];rfl
  exact(i6 (qO (i3 (d8 (qM rfl (qM (i3 rfl rfl rfl) rfl)) (xj _ _)) rfl k) rfl)).trans (qO (i3 rfl (tupS (qM (tupS (qM (i3 (i3 rfl rfl s) (i3 rfl rfl (modS (by decide))) c) (qM (i3 (i3 rfl rfl rfl) rfl (modS g)) rfl))) rfl)) p) rfl)
 ·simp[yi,(ES x e).1,within,w0]
  omega
 ·exact .tup (by simp) (by
   intro y d;simp at d;rcases d with h | h<;>subst h
   ·exact(ES _ e).2
   ·exact .int _)
def Ey:R->V3 Out:=(i4 (i7 (d6 uz (d3 aq (b8 (b9 0) (b8 (b9 4) d4))) (kI 4)) (setAt 5))
  (i4 (i7 (l9 d4) (setAt 6))
  (i4 (yh (rj (kI 6)) (setAt 7) zU)
  (i4 (i7 (d6 e8 (l9 (b8 (kS "time") (b8 (kS "alarm") (b8 (kS "laps") (b8 (kS "count") d4))))) (d6 rn (b9 5) (kI 4))) (setAt 9))
  (i7 (d6 n6 (b9 3) (l9 (b8 (l9 (b8 (b9 9) (b8 (zJ (i9 zo (d6 rn (d6 uz (b9 5) (kI 4)) (kI 2)) (kI 0))) (b8 (b9 6) d4)))) d4))) (setAt 3))))))
def Sl(N m q:Int)(ms:LD)(a f:OD)(i:Nat)(ρ:R):Prop:=∃rs o j,ρ=[some (.int N),some (.int m),some (.tup rS),some (.tup ms),a,some (.int q),some (.tup rs),j,o,f]/\rs.length=i/\∀x∈rs,yi x m=true/\Fits x
def ki{N m q:Int}(s:0<m) :
  ∃rs o j,xE (setAt 7) zU (sa 0 6) [some (.int N),some (.int m),some (.tup rS),some (.tup ms),a,some (.int q),some (.tup []),b,c,f]=some (.nx [some (.int N),some (.int m),some (.tup rS),some (.tup ms),a,some (.int q),some (.tup rs),j,o,f])/\rs.length=6/\∀x∈rs,yi x m=true/\Fits x:=by
 obtain⟨ρ',h1,rs,o,j,k,h,u⟩:=A_ (st:=setAt 7) (body:=zU) (Sl N m q ms a f) (sa 0 6) 0 [some (.int N),some (.int m),some (.tup rS),some (.tup ms),a,some (.int q),some (.tup []),b,c,f]
  ⟨[],c,b,rfl,rfl,λx g=>nomatch g⟩ (λi d ρ e p=>by
   obtain⟨rs,o,j,rfl,t,l⟩:=p;obtain⟨rfl,v⟩:=gX e;obtain⟨n,r,h1,k,h⟩:=lL (N:=N) (ms:=ms) (a:=a) (b:=o) (f:=f) (q:=q) (j:=(i:Int)) s (rs:=rs) (by omega) l;refine⟨_,_,rfl,h1,rs++[r],n,_,rfl,by simp[t],λx g=>?_⟩;rcases WY.mp g with g | g
   ·exact l x g
   ·cases Wh.mp g
    exact⟨k,h⟩)
 subst k;refine⟨rs,o,j,h1,?_,u⟩;rw[h,eQ];rfl
def ko{N m:Int}{k:Int}(B:0<m)(A:ms.length<=100) :
  ∃r v u t o4 o5,Ey [some (.int N),some (.int m),some (.tup rS),some (.tup ms),some (.int k),a,b,c,d,e]=some (.nx [some (.int N),some (.int m),some (.tup rS),some (.tup (ms++[r])),some (.int k),v,u,t,o4,o5])/\xJ r m=true/\Fits r:=by
 generalize z:xt N k / 4=q;obtain⟨rs,o,j,h1,G,s⟩:=ki (N:=N) (m:=m) (q:=q) (ms:=ms) (a:=some (.int k)) (b:=c) (c:=d) (f:=e) B;obtain⟨x,p,n⟩:=xU (xs:=Bo) (i:=q%4) (WZ _ (by decide)) (WW _ (by decide));have C:ms.length+1<=sizeLine:=sz (by omega);refine⟨.tup [x,.bl (q / 4%2==0),.tup rs],some (.int q),some (.tup rs),j,o,some x,?_,?_,?_⟩
 rotate_left 1
 ·have F:(rs.all λy=>yi y m)=true:=Xe.mpr λy g=>(s y g).1
  simp[xJ,(Fz x p).1,FV,G,F]
 ·refine .tup (by simp) λy g=>?_
  simp at g;rcases g with h | h | h<;>subst h
  ·exact(Fz _ p).2
  ·exact .bl _
  ·exact .tup (by omega) λy g=>(s y g).2
 ·have l:C9 [.str (oS "time"),.str (oS "alarm"),.str (oS "laps"),.str (oS "count")] (q%4)=some x:=n
  have E:n6 (.tup ms) (.tup [.tup [x,.bl (q / 4%2==0),.tup rs]])=some (.tup (ms++[.tup [x,.bl (q / 4%2==0),.tup rs]])):=by
   show(if ms.length+1<=sizeLine then _ else none)=_;rw[Wc C]
  have w:uz (.int (xt N k)) (.int 4)=some (.int q):=by rw[<- z];rfl
  exact(i6 (qO (i3 (d8 (qM rfl rfl) (xj _ _)) rfl w) rfl)).trans ((i6 (qO (tupS rfl) rfl)).trans ((i6 (wG (ds:=sa 0 6) rfl h1)).trans ((i6 (qO (i3 rfl (i3 rfl rfl (modS (by decide))) l) rfl)).trans
   (qO (i3 rfl (tupS (qM (tupS (qM rfl (qM (HU (si (i3 (i3 rfl rfl rfl) rfl (modS (by decide))) rfl rfl)) rfl))) rfl)) E) rfl))))
def Sb(N m:Int)(i:Nat)(ρ:R):Prop:=∃ms a b c d e f,ρ=[some (.int N),some (.int m),some (.tup rS),some (.tup ms),a,b,c,d,e,f]/\ms.length=i/\∀x∈ms,xJ x m=true/\Fits x
def kF(N:Int):∃b,ce [.int N]=some b/\DW b=true/\Fits b:=by
 generalize Q:1+N%8=m;have w:0<m:=by have:=WZ N (show(8:Int)≠0 by decide);omega
 have L:m<=8:=by have:=WW N (show(0:Int)<8 by decide);omega
 obtain⟨ρ',h1,ms,a,b,c,d,e,f,B,A,G⟩:=A_ (st:=setAt 4) (body:=Ey) (Sb N m) (sa 0 m) 0 [some (.int N),some (.int m),some (.tup rS),some (.tup []),none,none,none,none,none,none]
  ⟨[],none,none,none,none,none,none,rfl,rfl,λx g=>nomatch g⟩ (λi d ρ e p=>by
   obtain⟨ms,a,b,c,d',U,f,rfl,M,O⟩:=p;obtain⟨rfl,F⟩:=gX e;obtain⟨r,Y,X,W,o4,o5,h1,B,A⟩:=ko (N:=N) (ms:=ms) (k:=(i:Int)) (a:=b) (b:=c) (c:=d') (d:=U) (e:=f) w (by omega);refine⟨_,_,rfl,h1,ms++[r],_,_,_,_,_,_,rfl,by simp[M],λx g=>?_⟩;rcases WY.mp g with g | g
   ·exact O x g
   ·cases Wh.mp g
    exact⟨B,A⟩)
 subst B;rw[eQ] at A;have q:((ms.length:Nat):Int)=m:=by omega
 have K : -4611686018427387904<=m/\m<4611686018427387904:=by omega
 obtain⟨p,E,z⟩:=xU (xs:=[.int 3,.int 9]) (i:=N / 128%2) (WZ _ (by decide)) (WW _ (by decide))
 have u:∃v:Int,p=.int v/\0<v/\v<=9:=by
  simp at E;rcases E with h | h<;>subst h
  ·exact⟨3,rfl,by decide,by decide⟩
  ·exact⟨9,rfl,by decide,by decide⟩
 obtain⟨v,rfl,l,J⟩:=u;obtain⟨I,o,s⟩:=xU (xs:=[.int 0,.int 7,.int 60,.int 1,.int 20]) (i:=N / 256%5) (WZ _ (by decide)) (WW _ (by decide))
 have n:∃v:Int,I=.int v/\0<=v/\v<=60:=by
  simp at o;rcases o with h | h | h | h | h<;>subst h
  ·exact⟨0,rfl,by decide,by decide⟩
  ·exact⟨7,rfl,by decide,by decide⟩
  ·exact⟨60,rfl,by decide,by decide⟩
  ·exact⟨1,rfl,by decide,by decide⟩
  ·exact⟨20,rfl,by decide,by decide⟩
 obtain⟨H,rfl,C,t⟩:=n;have w0:0<=N / 8%v:=WZ _ (by omega);have w1:N / 8%v<v:=WW _ l;refine⟨.tup [.int (1+N / 8%v),.int H,.tup ms],?_,?_,?_⟩
 ·have F:rj (b9 1) [some (.int N),some (.int m),some (.tup rS),some (.tup []),none,none,none,none,none,none]=some (sa 0 m):=by
   show(if -4611686018427387904<=m/\m<4611686018427387904 then some (sa 0 m) else none)=_;rw[Wc K]
  have h0:n6 (.int 1) (.int (N%8))=some (.int m):=by rw[<- Q];rfl
  exact k6 ((i6 (qO (i3 rfl (i3 rfl rfl (modS (by decide))) h0) rfl)).trans ((i6 (qO rfl rfl)).trans ((i6 (qO (tupS rfl) rfl)).trans ((i6 (wG F h1)).trans (retS (tupS (qM (i3 rfl (i3 (i3 rfl rfl rfl) (i3 rfl (i3 (i3 rfl rfl rfl) rfl (modS (by decide))) z) (modS l)) rfl) (qM (i3 rfl (i3 (i3 rfl rfl rfl) rfl (modS (by decide))) s) rfl))))))))
 ·have P:(ms.all λy=>xJ y ms.length)=true:=Xe.mpr λy j=>by rw[q];exact(G y j).1
  have T:1<=ms.length:=by omega
  have S:ms.length<=8:=by omega
  simp[DW,within,DU,P,T,S];omega
 ·refine .tup (by simp) λy j=>?_
  simp at j;rcases j with h | h | h<;>subst h
  ·exact .int _
  ·exact .int _
  ·exact .tup (by omega) λy j=>(G y j).2
def gi:R->V3 Out:=
  (i4 (i7 (d6 e8 (kS "abcaab") (d6 rn (d6 uz (b9 0) (kI 8)) (kI 6))) (setAt 1))
  (i4 (i7 (d6 rn (b9 0) (kI 8)) (setAt 2))
  (i4 (uG (i9 RW (b9 2) (kI 3))
  (i5 (l9 (b8 (kS "down") (b8 (b9 1) d4))))
  qZ)
  (i4 (uG (i9 RW (b9 2) (kI 6))
  (i5 (l9 (b8 (kS "up") (b8 (b9 1) d4))))
  qZ)
  (i5 (l9 (b8 (kS "ticks") (b8 (d6 n6 (kI 1) (d6 rn (d6 uz (b9 0) (kI 64)) (d6 e8 (l9 (b8 (kI 4) (b8 (kI 12) (b8 (kI 130) d4)))) (d6 rn (d6 uz (b9 0) (kI 4096)) (kI 3))))) d4))))))))
def aX:LD->OD:=via 1 3 gi
def PV:Ev->Prop
 | .ticks n=>n<=130
 | _=>True
def Ev.Lt(e:Ev):Prop:=e.Ok/\PV e
def UN{i:Int}(h0:0<=i)(h1:i<6):∃x:vv,e8 (.str (oS "abcaab")) (.int i)=some (.str x.x):=by
 obtain⟨n,rfl⟩:=Int.eq_ofNat_of_zero_le h0;rcases n with _ | _ | _ | _ | _ | _ | n
 ·exact⟨.a,rfl⟩
 ·exact⟨.b,rfl⟩
 ·exact⟨.c,rfl⟩
 ·exact⟨.a,rfl⟩
 ·exact⟨.a,rfl⟩
 ·exact⟨.b,rfl⟩
 ·omega
def Si{i:Int}(h0:0<=i)(h1:i<3):∃t:Int,e8 (.tup [.int 4,.int 12,.int 130]) (.int i)=some (.int t)/\0<t/\t<=130:=by
 have:i=0\/i=1\/i=2:=by omega
 rcases this with rfl | rfl | rfl
 ·exact⟨4,rfl,by decide,by decide⟩
 ·exact⟨12,rfl,by decide,by decide⟩
 ·exact⟨130,rfl,by decide,by decide⟩
def GH(n:Int):∃e:Ev,aX [.int n]=some e.d/\e.Lt:=by
 obtain⟨x,a⟩:=UN (i:=n / 8%6) (by omega) (by omega);by_cases h1:n%8<3
 ·exact⟨.down x,k6 ((i6 (qO (i3 rfl (i3 (i3 rfl rfl rfl) rfl (modS (by decide))) a) rfl)).trans ((i6 (qO (i3 rfl rfl (modS (by decide))) rfl)).trans (um ((yU (si rfl rfl (dT h1))).trans (retS rfl))))),trivial,trivial⟩
 ·by_cases c:n%8<6
  ·exact⟨.up x,k6 ((i6 (qO (i3 rfl (i3 (i3 rfl rfl rfl) rfl (modS (by decide))) a) rfl)).trans ((i6 (qO (i3 rfl rfl (modS (by decide))) rfl)).trans ((i6 (v5 (si rfl rfl (dF h1)))).trans (um ((yU (si rfl rfl (dT c))).trans (retS rfl)))))),trivial,trivial⟩
  ·obtain⟨t,f,b,h⟩:=Si (i:=n / 4096%3) (by omega) (by omega)
   have j:=WZ (n / 64) (show t≠0 by omega);have g:=WW (n / 64) b;exact⟨.ticks (1+n / 64%t),k6 ((i6 (qO (i3 rfl (i3 (i3 rfl rfl rfl) rfl (modS (by decide))) a) rfl)).trans ((i6 (qO (i3 rfl rfl (modS (by decide))) rfl)).trans ((i6 (v5 (si rfl rfl (dF h1)))).trans ((i6 (v5 (si rfl rfl (dF c)))).trans (retS (tupS (qM rfl (qM (i3 rfl (i3 (i3 rfl rfl rfl) (i3 rfl (i3 (i3 rfl rfl rfl) rfl (modS (by decide))) f) (modS b)) rfl) rfl)))))))),by show 1<=_;omega,by show _<=130;omega⟩
def cT:R->V3 Out:=
 (i5 (d3 tu (b8 (uh 1 (rj (d6 rn (b9 0) (d6 n6 (b9 1) (kI 1)))) (setAt 0) rF (d3 aX (b8 (d6 uz (d3 aq (b8 (b9 1) (b8 (d6 n6 (kI 40) (b9 0)) d4))) (kI 4)) d4))) d4)))
def cU:LD->OD:=via 2 2 cT
def kN(n m:Int)(s:0<=m)(l:m<=100):∃es:List Ev,cU [.int n,.int m]=some (.tup (es.map Ev.d))/\(∀e∈es,e.Lt)/\es.length<=m.toNat:=by
 have p:=WZ n (show m+1≠0 by omega);have o:=WW n (show 0<m+1 by omega);have k:0<m+1:=by omega
 have key:∀(ds:LD) (ρ:R),(∀d∈ds,∃i:Int,d=.int i)->∃es:List Ev,rh (setAt 0) rF (d3 aX (b8 (d6 uz (d3 aq (b8 (b9 1) (b8 (d6 n6 (kI 40) (b9 0)) d4))) (kI 4)) d4)) ds (none::some (.int n)::ρ)=some (es.map Ev.d)/\(∀e∈es,e.Lt)/\es.length=ds.length:=by
  intro ds ρ
  induction ds with
  | nil=>intro _;exact⟨[],rfl,(λ_ h=>by cases h),rfl⟩
  | cons d ds ih =>
   intro h;obtain⟨i,rfl⟩:=h d Ws;obtain⟨es,h1,g,b⟩:=ih λx a=>h x (Wt _ a)
   obtain⟨e,r,q⟩:=GH (xt n (40+i) / 4);refine⟨e::es,?_,?_,by simp[b]⟩
   ·simp[rh,xj,r] at h1 ⊢
    rw[h1]
   ·intro x a
    rcases Wo.mp a with rfl | a
    ·exact q
    ·exact g x a
 obtain⟨es,h1,g,b⟩:=key (sa 0 (n%(m+1))) [some (.int m)] (λd hd=>by
  obtain⟨i,f⟩:=List.mem_iff_getElem?.mp hd;obtain⟨rfl,_⟩:=gX f;exact⟨_,rfl⟩)
 rw[eQ] at b;have hz:(sa 0 (n%(m+1))).length<=sizeLine:=by rw[eQ];exact WD (show(n%(m+1)).toNat<=1000 by omega) (by decide)
 refine⟨es,?_,g,by rw[b];omega⟩;have j : -(2 ^ 62:Int)<=n%(m+1)/\n%(m+1)<2 ^ 62:=by omega
 have c:uh 1 (rj (d6 rn (b9 0) (d6 n6 (b9 1) (kI 1)))) (setAt 0) rF (d3 aX (b8 (d6 uz (d3 aq (b8 (b9 1) (b8 (d6 n6 (kI 40) (b9 0)) d4))) (kI 4)) d4)) [some (.int n),some (.int m)]=some (.lst (es.map Ev.d)):=by
  have f:rj (d6 rn (b9 0) (d6 n6 (b9 1) (kI 1))) [some (.int n),some (.int m)]=some (sa 0 (n%(m+1))):=by
   show(if 0<m+1 then some (D.int (n%(m+1))) else none).bind _=_;rw[Wc k];show(if -(2 ^ 62:Int)<=n%(m+1)/\n%(m+1)<2 ^ 62 then some (sa 0 (n%(m+1))) else none)=_;rw[Wc j]
  unfold uh;rw[f];show(if (sa 0 (n%(m+1))).length<=sizeLine then _ else none)=_;rw[Wc hz];show(rh _ _ _ _ (none::some (.int n)::[some (.int m)])).map _=_;rw[h1];rfl
 show(if (2:Nat)=2 then rm (cT [some (.int n),some (.int m)]) else none)=_;rw[Wc rfl];unfold cT;simp only[i5,d3,b8,d4,c];rfl
def gN:R->V3 Out:=
  (i4 (Dc 4 (i7 (d6 n6 (x3 (b8 (b9 1) d4)) (uh 1 (rj (d3 rY (b8 (d6 e8 (b9 0) (kI 2)) d4))) (setAt 0) (i9 EE (b9 0) (b9 2)) (b9 0))) (setAt 2)))
  (i4 (i7 (l9 d4) (setAt 3))
  (i4 (yh (qU (b9 2)) (setAt 4)
  (i4 (i7 (d6 e8 (d6 e8 (b9 0) (kI 2)) (b9 4)) (zL [(setAt 5),(setAt 6),(setAt 7)]))
  (i4 (i7 (d3 tu (b8 (uh 2 (qU (b9 7)) (zL [(setAt 0),(setAt 1)]) rF (l9 (b8 (b9 0) (b8 (d3 uE (b8 (b9 4) (b8 (b9 1) d4))) d4)))) d4)) (setAt 8))
  (i7 (d6 n6 (b9 3) (l9 (b8 (l9 (b8 (b9 5) (b8 (b9 6) (b8 (b9 8) d4)))) d4))) (setAt 3)))))
  (i5 (l9 (b8 (d6 e8 (b9 0) (kI 0)) (b8 (d6 e8 (b9 0) (kI 1)) (b8 (b9 3) d4))))))))
def al:LD->OD:=via 2 9 gN
def gk:R->V3 Out:=
 (i7 (d3 tu (b8 (uh 2 (qU (Jp (b9 5) MQ (aP (kI 2)))) (zL [(setAt 0),(setAt 1)]) rF (l9 (b8 (d6 e8 (x3 (b8 (kS "none") (b8 (kS "hour") d4))) (d3 IN (b8 (zJ (i9 Kh (b9 0) (kS "count"))) d4))) (b8 (b9 1) d4)))) d4)) (setAt 6))
def gO:R->V3 Out:=
 (i7 (d6 n6 (b9 2) (l9 (b8 (l9 (b8 (kS "time") (b8 (λ_=>some (.bl true)) (b8 (d6 K0 (b9 6) (kI 3)) d4)))) d4))) (setAt 2))
def cV:R->V3 Out:=(i4 gk gO)
def gm:R->V3 Out:=
  (uG (tQ (d3 ax (b8 (d3 al (b8 (b9 7) (b8 (b9 9) d4))) (b8 (d3 al (b8 (b9 7) (b8 (b9 10) d4))) d4))))
  (i5 (λ_=>some (.bl false)))
  qZ)
def da:R->V3 Out:=gm
def fV:R->V3 Out:=
 (yh (rj (b9 9)) (setAt 10) da)
def eS:R->V3 Out:=fV
def jG:R->V3 Out:=
 (i7 (d3 ce (b8 (d3 aO (b8 (b9 0) (b8 (kI 0) d4))) d4)) (setAt 1))
def gI:R->V3 Out:=
  (uG (i9 zo (d6 rn (d3 aO (b8 (b9 0) (b8 (kI 1) d4))) (kI 2)) (kI 0))
  (i4 (i7 (l9 d4) (setAt 2))
  (i4 (yh (qU (d6 e8 (b9 1) (kI 2))) (zL [(setAt 3),(setAt 4),(setAt 5)]) cV)
  (i7 (d6 n6 (Jp (b9 1) MQ (aP (kI 2))) (l9 (b8 (b9 2) d4))) (setAt 1))))
  qZ)
def jx:R->V3 Out:=
 (i7 (d3 aJ (b8 (b9 1) d4)) (setAt 7))
def jR:R->V3 Out:=
  (uG (Jo (yn (tQ (d3 dG (b8 (b9 7) d4)))) (Jo (yn (tQ (d3 ax (b8 (b9 1) (b8 (b9 7) d4))))) (Jo (i9 uq (d3 aJ (b8 (b9 7) d4)) (b9 7)) (i9 uq (Jp (b9 7) MQ (aP (kI 2))) (Jp (b9 1) MQ (aP (kI 2)))))))
  (i5 (λ_=>some (.bl false)))
  qZ)
def ju:R->V3 Out:=
 (i7 (d3 rY (b8 (d6 e8 (b9 7) (kI 2)) d4)) (setAt 8))
def jy:R->V3 Out:=
  (uG (Jo (i9 FT (b9 8) (d3 rY (b8 (d3 cD (b8 (b9 1) d4)) d4))) (i9 uq (d3 cD (b8 (b9 7) d4)) (RB (b9 8))))
  (i5 (λ_=>some (.bl false)))
  qZ)
def gU:R->V3 Out:=
 (yh (rj (b9 8)) (setAt 9) eS)
def jr:R->V3 Out:=
 (i7 (d3 cU (b8 (d3 aO (b8 (b9 0) (b8 (kI 2) d4))) (b8 (kI 14) d4))) (setAt 11))
def jw:R->V3 Out:=
  (uG (i9 uq (d3 gc (b8 (b9 1) (b8 (b9 11) d4))) (d3 gc (b8 (b9 7) (b8 (b9 11) d4))))
  (i5 (λ_=>some (.bl false)))
  qZ)
def hV:R->V3 Out:=
 (Dc 9 (i7 (uh 1 (qU (d3 eV (b8 (b9 1) (b8 (b9 11) d4)))) (setAt 0) (i9 EE (d6 e8 (b9 0) (kI 1)) (kS "back")) (b9 0)) (setAt 12)))
def ia:R->V3 Out:=
  (Dc 9 (uG (i9 uq (b9 12) (uh 1 (qU (d3 eV (b8 (b9 7) (b8 (b9 11) d4)))) (setAt 0) (i9 EE (d6 e8 (b9 0) (kI 1)) (kS "back")) (b9 0)))
  (i5 (λ_=>some (.bl false)))
  qZ))
def iz:R->V3 Out:=
 (i7 (l9 (b8 (d6 n6 (d6 rn (d6 e8 (b9 1) (kI 0)) (kI 9)) (kI 1)) (b8 (d6 rn (d6 n6 (d6 e8 (b9 1) (kI 1)) (kI 1)) (kI 61)) (b8 (d6 e8 (b9 1) (kI 2)) d4)))) (setAt 13))
def lg:R->V3 Out:=
 (i5 (zJ (i9 EG (d3 aJ (b8 (b9 13) d4)) (d6 n6 (Jp (b9 13) MQ (aP (kI 2))) (l9 (b8 (d6 e8 (b9 7) (kI 2)) d4))))))
def qH:R->V3 Out:=
 (i4 jG (i4 gI (i4 jx (i4 jR (i4 ju (i4 jy (i4 gU (i4 jr (i4 jw (i4 hV (i4 ia (i4 iz lg))))))))))))
def iA:LD->OD:=via 1 14 qH
abbrev Pp:=Nat×Nat
def Bk.md(b:Bk)(x:Nat):Md:=b.modes.getD x default
def Md.row(m:Md)(k:Nat):rH×Nat:=m.rows.getD k default
noncomputable def Nt(A B:Bk)(p:Pp)(k:Nat):Pp:=(((A.md p.1).row k).2,((B.md p.2).row k).2)
def JX(A B:Bk)(p:Pp):Bool:=!(decide ((A.md p.1).face=(B.md p.2).face)&&((A.md p.1).stays==(B.md p.2).stays))
def RD(A B:Bk)(p:Pp)(k:Nat):Bool:=!decide (((A.md p.1).row k).1=((B.md p.2).row k).1)
def Wd(u:List Nat):Prop:=∀k∈u,k<6
def run(A B:Bk)(u:List Nat):Pp:=u.foldl (Nt A B) (0,0)
def vg(v:List Nat)(k:Nat):run A B (v++[k])=Nt A B (run A B v) k:=by simp[run]
def sJ{k:Nat}:Wd (v++[k])↔Wd v/\k<6:=by
 unfold Wd;constructor
 ·intro h
  exact⟨λj a=>h j (Xm _ a),h k (by simp)⟩
 ·rintro⟨h1,b⟩ j a
  rcases WY.mp a with z | z
  ·exact h1 j z
  ·rw[Wh.mp z];exact b
def Pt(A B:Bk)(u:List Nat):Prop:=(u=[]/\JX A B (0,0)=true)\/∃v k,u=v++[k]/\(RD A B (run A B v) k=true\/JX A B (run A B u)=true)
def GL:Pt A B []↔JX A B (0,0)=true:=by
 constructor
 ·rintro(h | ⟨v,k,h,_⟩)
  ·exact h.2
  ·simp at h
 ·exact λh=>.inl ⟨rfl,h⟩
def z_{k:Nat}:Pt A B (v++[k])↔RD A B (run A B v) k=true\/JX A B (Nt A B (run A B v) k)=true:=by
 constructor
 ·rintro(h | ⟨v',k',h,h2⟩)
  ·simp at h
  ·obtain⟨rfl,a⟩:=List.append_inj' h rfl
   cases a;rw[vg] at h2;exact h2
 ·intro h
  exact .inr ⟨v,k,rfl,by rw[vg];exact h⟩
def snoc_cases(u:List Nat):u=[]\/∃v k,u=v++[k]:=by
 rcases List.eq_nil_or_concat u with h | ⟨v,k,h⟩
 ·exact .inl h
 ·exact .inr ⟨v,k,by rw[h];simp⟩
def qh(h:JX A B (run A B u)=true):Pt A B u:=by
 rcases snoc_cases u with rfl | ⟨v,k,rfl⟩
 ·exact GL.mpr h
 ·rw[vg] at h
  exact z_.mpr (.inr h)
def OI(A B:Bk)(p:Pp):Prop:=p.1<A.modes.length/\p.2<B.modes.length
def Q4{b:Bk}{x:Nat}(h:x<b.modes.length):b.md x∈b.modes:=by
 unfold Bk.md;rw[Wn,List.getElem?_eq_getElem h];exact List.getElem_mem h
def tF{b:Bk}(ok:b.Ok){x:Nat}(h:x<b.modes.length):(b.md x).Ok b.modes.length:=ok.all _ (Q4 h)
def zc{m:Md}{k:Nat}(h:k<m.rows.length):m.rows[k]?=some (m.row k):=by
 unfold Md.row;rw[Wn,List.getElem?_eq_getElem h];rfl
def L3(e:A.Ok)(d:B.Ok){k:Nat}(h:OI A B p)(c:k<6):OI A B (Nt A B p k):=by
 have a:=tF e h.1;have b:=tF d h.2;exact⟨a.nx _ (Wi (zc (by rw[a.six];exact c))),b.nx _ (Wi (zc (by rw[b.six];exact c)))⟩
def R6(b:A.Ok)(a:B.Ok):OI A B (0,0):=⟨b.some1,a.some1⟩
def N_(b:A.Ok)(a:B.Ok)(u:List Nat):Wd u->OI A B (run A B u):=by
 have:∀(u:List Nat) (p:Pp),OI A B p->Wd u->OI A B (u.foldl (Nt A B) p):=λu=>by
  induction u with
  | nil=>exact λp h _=>h
  | cons k u ih=>exact λp h w=>ih _ (L3 b a h (w k Ws)) λj c=>w j (Wt _ c)
 exact this u (0,0) (R6 b a)
structure V0 (A B:Bk) (m:Nat):Prop where
 ex:∃u,Wd u/\u.length=m/\Pt A B u
 no:∀u,Wd u->u.length<m->¬ Pt A B u
def MP(A B:Bk):Prop:=∀u,Wd u->¬ Pt A B u
def N9(f g:Face)(s t:Bool):uq (.tup [.str f.x,.bl s]) (.tup [.str g.x,.bl t])=some (!(decide (f=g)&&(s==t))):=by
 cases f<;>cases g<;>cases s<;>cases t<;>decide +kernel
def rH.ofX(x:Str):V3 rH:=[rH.none,.hour,.minute,.zero,.ahour,.aminute,.alarm,.run,.lap,.cminute,.csecond,.full,.count].find? (·.x==x)
def Pu(d:rH):rH.ofX d.x=some d:=by cases d<;>rfl
def E4{a b:rH}(h:a.x=b.x):a=b:=by
 have:=Pu a;rw[h,Pu b] at this;exact(Wq this).symm
def Nw(a b:rH):EE (.str a.x) (.str b.x)=some (!decide (a=b)):=by
 show some (!(a.x==b.x))=_;by_cases h:a=b
 ·subst h;simp
 ·rw[Wx h,WQ.mpr λz=>h (E4 z)]
def HR{b:Bk}{x:Nat}(h:x<b.modes.length):C9 (b.modes.map Md.d) (x:Int)=some (b.md x).d:=
 yJ (by rw[Wg,List.getElem?_eq_getElem h];unfold Bk.md;rw[Wn,List.getElem?_eq_getElem h];rfl)
def B7{b:Bk}{x:Nat}{f g:R->OD}{ρ:R}(c:f ρ=some b.d)(a:g ρ=some (.int (x:Int)))(h:x<b.modes.length):d6 e8 (d6 e8 f (kI 2)) g ρ=some (b.md x).d:=by
 show((f ρ).bind λx=>(some (D.int 2)).bind λy=>e8 x y).bind (λx=>(g ρ).bind λy=>e8 x y)=_;rw[c,a];exact HR h
def im{m:Md}(h:m.rows.length=6){b:Type}(f:rH×Nat->b):m.rows.map f=(List.range 6).map λk=>f (m.row k):=by
 apply List.ext_getElem?;intro i;rw[Wg,Wg];by_cases a:i<6
 ·rw[zc (by omega),List.getElem?_range a];rfl
 ·rw[W8 (by omega),W8 (by simpa using a)];rfl
def gR(m:Md):aY [m.d]=some (.tup [.str m.face.x,.bl m.stays]):=rfl
def HD{m:Md}(h:m.rows.length=6){j:Int}{f:rH×Nat->D}(a:∀r,e8 (q9 r) (.int j)=some (f r)):uh 1 (qU (d6 e8 (b9 0) (kI 2))) (setAt 0) rF (d6 e8 (b9 0) (kI j)) [some m.d]=some (.lst ((List.range 6).map λk=>f (m.row k))):=by
 have c:rh (setAt 0) rF (d6 e8 (b9 0) (kI j)) (m.rows.map q9) (List.replicate 1 none++[some m.d])=some ((m.rows.map q9).map λd=>(e8 d (.int j)).getD .non):=
  y_ _ λd hd=>by
   obtain⟨r,_,rfl⟩:=List.mem_map.mp hd;refine⟨_,rfl,?_⟩;rw[a r];exact a r
 have b:qU (d6 e8 (b9 0) (kI 2)) [some m.d]=some (m.rows.map q9):=rfl;unfold uh;rw[b,Wa,Wc (IV (by rw[V9];omega)),c,List.map_map,im h];show some (D.lst _)=_;congr 2;apply List.map_congr_left;intro k _;show(e8 (q9 (m.row k)) (.int j)).getD .non=_;rw[a];rfl
def eU{m:Md}(h:m.rows.length=6):bi [m.d]=some (.lst ((List.range 6).map λk=>.int ((m.row k).2:Int))):=
 tZ (HD h (j:=1) (f:=λr=>.int (r.2:Int)) λ_=>rfl)
def gz{m:Md}(h:m.rows.length=6):ak [m.d]=some (.lst ((List.range 6).map λk=>.str (m.row k).1.x)):=
 tZ (HD h (j:=0) (f:=λr=>.str r.1.x) λ_=>rfl)
def oD{m a:Md}(h:m.rows.length=6)(h':a.rows.length=6):ba [m.d,a.d]=some (.lst ((List.range 6).map λk=>.tup [.int ((m.row k).2:Int),.int ((a.row k).2:Int)])):=by
 refine tZ ?_;show((d3 bi (b8 (b9 0) d4) [some m.d,some a.d]).bind λx=>(d3 bi (b8 (b9 1) d4) [some m.d,some a.d]).bind λy=>_)=_;rw[tG (x:=m.d) rfl (eU h),tG (x:=a.d) rfl (eU h'),Wa,Wa];simp only[lI,Wa];rw[Wc (by simp)];rfl
def vL(p:Pp):Ky:=.inr ((p.1:Int),(p.2:Int))
def RA(p:Pp):D:=.tup [.int (p.1:Int),.int (p.2:Int)]
def JZ(A B:Bk):Ky->List Ky
 | .inr q=>(List.range 6).map λk=>vL (Nt A B (q.1.toNat,q.2.toNat) k)
 | .inl _=>[]
def Ah(A B:Bk)(p:Pp):JZ A B (vL p)=(List.range 6).map λk=>vL (Nt A B p k):=rfl
def HN(A B:Bk):List Ky:=(List.range A.modes.length).flatMap λi=>(List.range B.modes.length).map λj=>vL (i,j)
def wA:x∈HN A B↔∃p,OI A B p/\x=vL p:=by
 unfold HN;rw[List.mem_flatMap];constructor
 ·rintro⟨i,c,a⟩
  obtain⟨j,b,rfl⟩:=List.mem_map.mp a;exact⟨(i,j),⟨List.mem_range.mp c,List.mem_range.mp b⟩,rfl⟩
 ·rintro⟨p,h,rfl⟩
  exact⟨p.1,List.mem_range.mpr h.1,List.mem_map.mpr ⟨p.2,List.mem_range.mpr h.2,rfl⟩⟩
theorem iJ(f:b->List d)(c:Nat):∀l:List b,(∀x∈l,(f x).length=c)->(l.flatMap f).length=l.length*c
 | [],_=>by simp
 | a::l,h=>by
  rw[List.flatMap_cons,WB,h a Ws,iJ f c l λx e=>h x (Wt _ e),WH,Nat.succ_mul];omega
def KY(b:A.Ok)(a:B.Ok):(HN A B).length<=64:=by
 unfold HN;rw[iJ _ B.modes.length _ λx _=>by simp,List.length_range];exact Nat.mul_le_mul b.some8 a.some8
def J2:∀x∈HN A B,x.isLeft=false:=λx a=>by
 obtain⟨p,_,rfl⟩:=wA.mp a;rfl
def O7(g:A.Ok)(f:B.Ok):∀x:Ky,x∈HN A B->(JZ A B x).length=6/\∀e∈JZ A B x,True/\e∈HN A B:=λx a=>by
 obtain⟨p,b,rfl⟩:=wA.mp a;rw[Ah];refine⟨by simp,λe d=>⟨trivial,?_⟩⟩;obtain⟨k,c,rfl⟩:=List.mem_map.mp d;exact wA.mpr ⟨_,L3 g f b (List.mem_range.mp c),rfl⟩
theorem aT{b:Type}{f:b->D}(h:∀a,uF (f a)=true):∀l:List b,rW (l.map f)=true
 | []=>rfl
 | a::l=>by show(uF (f a)&&rW _)=true;rw[h a,aT h l];rfl
def mI(r:rH×Nat):uF (q9 r)=true:=rfl
def jb(m:Md):uF m.d=true:=by
 show(true&&(true&&(rW (m.rows.map q9)&&true)))=true;rw[aT mI];rfl
def dP(b:Bk):uF b.d=true:=by
 show(true&&(true&&(rW (b.modes.map Md.d)&&true)))=true;rw[aT jb];rfl
def GC(i:A.Ok)(h:B.Ok){a:Nat}(x:Ky)(e:x∈HN A B):Gives (.cl HI a [B.d,A.d]) (JZ A B) x:=by
 obtain⟨p,c,rfl⟩:=wA.mp e;refine⟨(O7 i h _ e).1,λρ l j=>?_⟩;unfold x6;rw[l,Wa];show((b9 3 ρ).bind λy=>(some []).map (y::·)).bind _=_;rw[j];show(LL HI).bind _=_;rw[VZ,Wa];rw[Wc ⟨rfl,by show(uF _&&(uF _&&true))=true;rw[dP,dP];rfl,Ur.symm⟩]
 have n:xY 3 KF ([l6 (vL p)]++[B.d,A.d])=some (.lst ((JZ A B (vL p)).map l6)):=by
  show d3 ba _ [some (l6 (vL p)),some B.d,some A.d]=_;have q:=B7 (b:=A) (x:=p.1) (f:=b9 2) (g:=d6 e8 (b9 0) (kI 0)) (ρ:=[some (l6 (vL p)),some B.d,some A.d]) rfl rfl c.1;have o:=B7 (b:=B) (x:=p.2) (f:=b9 1) (g:=d6 e8 (b9 0) (kI 1)) (ρ:=[some (l6 (vL p)),some B.d,some A.d]) rfl rfl c.2
  have m:b8 (d6 e8 (d6 e8 (b9 2) (kI 2)) (d6 e8 (b9 0) (kI 0))) (b8 (d6 e8 (d6 e8 (b9 1) (kI 2)) (d6 e8 (b9 0) (kI 1))) d4) [some (l6 (vL p)),some B.d,some A.d]=some [(A.md p.1).d,(B.md p.2).d]:=by
   show(d6 e8 _ _ _).bind (λx=>((d6 e8 _ _ _).bind λy=>(some []).map (y::·)).map (x::·))=_;rw[q,o];rfl
  show(b8 _ _ _).bind ba=_;rw[m,Wa,oD (tF i c.1).six (tF h c.2).six,Ah,List.map_map];rfl
 rw[n,Wa,Wc (show uF (.lst ((JZ A B (vL p)).map l6))=true from aT (λk=>by cases k<;>rfl) _)]
def KZ(A B:Bk):R->OD:=(vj ag HI (b8 (l9 (b8 (kI 0) (b8 (kI 0) d4))) d4) (wo [1,0]))
def IA(o:A.Ok)(m:B.Ok):∃b L,BI (JZ A B) (HN A B) (vL (0,0)) b [] L/\L<=100/\∀r:R,KZ A B (some A.d::some B.d::r)=some (.dcp (b.map λp=>k2 p.1) (b.map λp=>p.2)):=by
 obtain⟨b,L,C,hI,E⟩:=Ao (go:=JZ A B) (bx:=HN A B) (s:=vL (0,0)) J2 (KY o m) (wA.mpr ⟨_,R6 o m,rfl⟩) (O7 o m);refine⟨b,L,hI,E.1,λr=>?_⟩;have f:b ≠ []:=λz=>by have:=hI.st;rw[z] at this;cases this
 have hd:sQ b=.dcp (b.map λp=>k2 p.1) (b.map λp=>p.2):=by
  match b,f,hI with
  | (.inr q,d)::b,_,_=>rfl
  | (.inl q,d)::b,_,hI =>
   have:=J2 _ (hI.val _ Ws).2.1;cases this
 have F:∀a,ag [l6 (vL (0,0)),.cl HI a [B.d,A.d]]=some (sQ b):=λa=>by
  show rm (xT ae 4 0 1 (.str (oS "")) [some (l6 (vL (0,0))),some (.cl HI a [B.d,A.d]),none,none])=_;exact(congrArg rm (Az (g:=ae) (n:=4) (i:=0) (j:=1) (e:=.str (oS "")) (c:=.cl HI a [B.d,A.d]) (ρ:=[some (l6 (vL (0,0))),some (.cl HI a [B.d,A.d]),none,none]) (s:=l6 (vL (0,0))) (k:=vL (0,0)) (kv:=b) rfl rfl rfl rfl f (C _ λx v=>GC o m x v))).trans rfl
 have u:EB (sQ b)=true:=by
  rw[hd];show rW (b.map λp=>p.2)=true
  have:∀l:KI,(∀p∈l,∃w,p.2=D.str w)->rW (l.map λp=>p.2)=true:=λl=>by
   induction l with
   | nil=>intro _;rfl
   | cons p l ih =>
    intro h;obtain⟨w,t⟩:=h p Ws;show(uF p.2&&_)=true;rw[t,ih λq y=>h q (Wt _ y)];rfl
  exact this b λp h=>let ⟨_,_,w,t,_⟩:=hI.val p h;⟨w,t⟩
 unfold KZ;rw[<- hd];exact A8 (as:=[l6 (vL (0,0))]) (caps:=[B.d,A.d]) rfl rfl (by show(uF _&&(uF _&&true))=true;rw[dP,dP];rfl) u F
def Q8(k:Nat):Str:=vk.getD k (oS "")
def txt(u:List Nat):Str:=u.foldl (λw k=>w++Q8 k) (oS "")
def txt_snoc(u:List Nat)(k:Nat):txt (u++[k])=txt u++Q8 k:=by simp[txt]
def Av{k:Nat}(h:k<6):vk[k]?=some (Q8 k):=by
 unfold Q8;rw[Wn,List.getElem?_eq_getElem (show k<vk.length from h)];rfl
theorem Hv:∀(n:Nat) (u:List Nat),u.length=n->Wd u->(txt u).length=u.length
 | 0,u,h,_=>by rw[List.length_eq_zero_iff.mp h];decide +kernel
 | n+1,u,h,w=>by
  rcases snoc_cases u with rfl | ⟨v,k,rfl⟩
  ·cases h
  ·obtain⟨w1,w2⟩:=sJ.mp w
   have a:v.length=n:=by simp at h;omega
   rw[txt_snoc,str_len,Hv n v a w1,yE (Av w2)];simp
def jv(w:Wd u):(txt u).length=u.length:=Hv _ u rfl w
def MZ(h:vL p=vL q):p=q:=by
 have h':=Sum.inr.inj h;injection h' with a b
 exact Prod.ext (by omega) (by omega)
def K6{L:Nat}(o:A.Ok)(m:B.Ok)(hI:BI (JZ A B) (HN A B) (vL (0,0)) c [] L):∀(n:Nat) (x:Ky) (w:Str),w.length=n->(x,D.str w)∈c->∃u,Wd u/\x=vL (run A B u)/\w=txt u:=by
 intro n
 induction n using Nat.strongRecOn with
 | ind n ih =>
  intro x w f g;rcases hI.tr x w g with ⟨rfl,rfl⟩ | ⟨y,v,i,j,h1,d,a,rfl⟩
  ·exact⟨[],λk h=>(by cases h),rfl,rfl⟩
  ·have l:=yE a
   rw[str_len] at f;obtain⟨u,e,rfl,rfl⟩:=ih v.length (by omega) y v rfl h1;have b:i<6:=by have:=(Wm.mp a).1;exact this
   refine⟨u++[i],sJ.mpr ⟨e,b⟩,?_,?_⟩
   ·rw[Ah,Wg,List.getElem?_range b] at d
    rw[vg];exact(Wq d).symm
   ·rw[txt_snoc]
    rw[Av b] at a;cases a;rfl
theorem A5{L:Nat}(hI:BI (JZ A B) (HN A B) (vL (0,0)) a [] L):∀(n:Nat) (u:List Nat),u.length=n->Wd u->∃w,(vL (run A B u),D.str w)∈a/\w.length<=u.length
 | 0,u,h,_=>by rw[List.length_eq_zero_iff.mp h];exact⟨_,hI.st,by decide +kernel⟩
 | n+1,u,h,w=>by
  rcases snoc_cases u with rfl | ⟨v,k,rfl⟩
  ·cases h
  ·obtain⟨w1,w2⟩:=sJ.mp w
   have d:v.length=n:=by simp at h;omega
   obtain⟨x,c,f⟩:=A5 hI n v d w1;obtain⟨y,b,e⟩:=hI.cl _ _ c (by simp) (vL (Nt A B (run A B v) k)) (by rw[Ah];exact List.mem_map.mpr ⟨k,List.mem_range.mpr w2,rfl⟩);rw[vg];exact⟨y,b,by simp;omega⟩
def FS(A B:Bk)(p:Pp):List Str:=if JX A B p then [oS ""] else ((List.range 6).filter (RD A B p)).map Q8
def Qx:sa 0 6=(List.range 6).map λk:Nat=>D.int (k:Int):=rfl
def FA{k:Nat}(h:k<6):C9 ((List.range 6).map f) (k:Int)=some (f k):=yJ (by rw[Wg,List.getElem?_range h];rfl)
def jp(j:A.Ok)(g:B.Ok)(h:OI A B p):be [(A.md p.1).d,(B.md p.2).d]=some (.lst ((FS A B p).map .str)):=by
 have b:i9 uq (d3 aY (b8 (b9 0) d4)) (d3 aY (b8 (b9 1) d4)) [some (A.md p.1).d,some (B.md p.2).d]=some (JX A B p):=
  (Di (tG (x:=(A.md p.1).d) rfl (gR _)) (tG (x:=(B.md p.2).d) rfl (gR _))).trans (N9 _ _ _ _)
 show rm (i4 (uG _ _ qZ) _ [some (A.md p.1).d,some (B.md p.2).d])=_;unfold FS;cases c:JX A B p with
 | true =>
  rw[c] at b;show rm ((uG _ _ qZ _).bind _)=_;unfold uG;rw[b];rfl
 | false =>
  rw[c] at b
  have s1:uG (i9 uq (d3 aY (b8 (b9 0) d4)) (d3 aY (b8 (b9 1) d4))) (i5 (x3 (b8 (kS "") d4))) qZ [some (A.md p.1).d,some (B.md p.2).d]=some (.nx [some (A.md p.1).d,some (B.md p.2).d]):=by
   unfold uG;rw[b];rfl
  rw[tY s1];refine tZ ?_
  have f:rh (setAt 0) (i9 EE (d6 e8 (d3 ak (b8 (b9 1) d4)) (b9 0)) (d6 e8 (d3 ak (b8 (b9 2) d4)) (b9 0))) (d6 e8 (λ_=>some ao) (b9 0)) (sa 0 6) (List.replicate 1 none++[some (A.md p.1).d,some (B.md p.2).d])=some (((sa 0 6).filter λd=>match d with | .int i=>RD A B p i.toNat | _=>false).map λd=>match d with | .int i=>D.str (Q8 i.toNat) | _=>.non):=
   x4 _ _ λd hd=>by
    rw[Qx] at hd;obtain⟨k,a,rfl⟩:=List.mem_map.mp hd;have a:=List.mem_range.mp a;refine⟨[some (.int (k:Int)),some (A.md p.1).d,some (B.md p.2).d],rfl,?_,λ_=>?_⟩
    ·have a1:d6 e8 (d3 ak (b8 (b9 1) d4)) (b9 0) [some (.int (k:Int)),some (A.md p.1).d,some (B.md p.2).d]=some (.str ((A.md p.1).row k).1.x):=by
      show(d3 ak (b8 (b9 1) d4) _).bind (λx=>(some (D.int (k:Int))).bind λy=>e8 x y)=_;rw[tG (x:=(A.md p.1).d) rfl (gz (tF j h.1).six)];exact FA a
     have a2:d6 e8 (d3 ak (b8 (b9 2) d4)) (b9 0) [some (.int (k:Int)),some (A.md p.1).d,some (B.md p.2).d]=some (.str ((B.md p.2).row k).1.x):=by
      show(d3 ak (b8 (b9 2) d4) _).bind (λx=>(some (D.int (k:Int))).bind λy=>e8 x y)=_;rw[tG (x:=(B.md p.2).d) rfl (gz (tF g h.2).six)];exact FA a
     exact(Di a1 a2).trans (Nw _ _)
    ·show C9 (vk.map .str) (k:Int)=_
     exact yJ (by rw[Wg,Av a];rfl)
  unfold uh;have e:rj (d3 rY (b8 (λ_=>some ao) d4)) [some (A.md p.1).d,some (B.md p.2).d]=some (sa 0 6):=rfl;rw[e,Wa,Wc (IV (by rw[Qx];simp)),f,Qx,List.filter_map,List.map_map,Wu (by simp),List.map_map];rfl
def Fj(A B:Bk)(e:Ky×D):List Str:=match e with
 | (.inr q,.str w)=>(FS A B (q.1.toNat,q.2.toNat)).map λs=>w++s
 | _=>[]
theorem Pe:∀{kv:KI} {q:Int×Int},(∀e∈kv,e.1.isLeft=false)->PF (kv.map λp=>k2 p.1) (kv.map λp=>p.2) q=rq kv (.inr q)
 | [],q,_=>rfl
 | (.inl _,d)::kv,q,h=>by cases h _ Ws
 | (.inr k,d)::kv,q,h=>by
  show(if k=q then some d else PF _ _ _)=if (Sum.inr k:Ky)=.inr q then some d else rq kv _
  by_cases z:k=q
  ·rw[Wc z,Wc (by rw[z])]
  ·rw[Wu z,Wu λy=>z (Sum.inr.inj y)]
   exact Pe λe a=>h e (Wt _ a)
def H_(A B:Bk)(p:Pp):(FS A B p).length<=6:=by
 unfold FS;split
 ·simp
 ·rw[V9]
  exact WD (List.length_filter_le _ _) (by simp)
def Ig(A B:Bk)(p:Pp):∀s∈FS A B p,s.length<=1:=λs a=>by
 unfold FS at a;split at a
 ·rw[Wh.mp a];decide +kernel
 ·obtain⟨k,b,rfl⟩:=List.mem_map.mp a
  have:=List.mem_range.mp (List.mem_filter.mp b).1;rw[yE (Av this)];exact Wl _
def En:R->OD:=(uh 1 (qU (d3 be (b8 (d6 e8 (d6 e8 (b9 0) (kI 2)) (d6 e8 (b9 3) (kI 0))) (b8 (d6 e8 (d6 e8 (b9 1) (kI 2)) (d6 e8 (b9 3) (kI 1))) d4)))) (setAt 0) rF (d6 n6 (d6 Lo (b9 3) (b9 4)) (b9 0)))
def NE(q:A.Ok)(o:B.Ok){L:Nat}(hI:BI (JZ A B) (HN A B) (vL (0,0)) c [] L)(C:L<=100)(j:(vL p,D.str w)∈c)(i:OI A B p) :
  En [some A.d,some B.d,some (.dcp (c.map λp=>k2 p.1) (c.map λp=>p.2)),some (RA p)]=some (.lst ((Fj A B (vL p,.str w)).map .str)):=by
 generalize a:([some A.d,some B.d,some (.dcp (c.map λp=>k2 p.1) (c.map λp=>p.2)),some (RA p)]:R)=ρ;have u:=B7 (b:=A) (x:=p.1) (f:=b9 0) (g:=d6 e8 (b9 3) (kI 0)) (ρ:=ρ) (by rw[<- a];rfl) (by rw[<- a];rfl) i.1;have t:=B7 (b:=B) (x:=p.2) (f:=b9 1) (g:=d6 e8 (b9 3) (kI 1)) (ρ:=ρ) (by rw[<- a];rfl) (by rw[<- a];rfl) i.2
 have r:b8 (d6 e8 (d6 e8 (b9 0) (kI 2)) (d6 e8 (b9 3) (kI 0))) (b8 (d6 e8 (d6 e8 (b9 1) (kI 2)) (d6 e8 (b9 3) (kI 1))) d4) ρ=some [(A.md p.1).d,(B.md p.2).d]:=by
  show(d6 e8 _ _ _).bind (λx=>((d6 e8 _ _ _).bind λy=>(some []).map (y::·)).map (x::·))=_;rw[u,t];rfl
 have l:qU (d3 be (b8 (d6 e8 (d6 e8 (b9 0) (kI 2)) (d6 e8 (b9 3) (kI 0))) (b8 (d6 e8 (d6 e8 (b9 1) (kI 2)) (d6 e8 (b9 3) (kI 1))) d4))) ρ=some ((FS A B p).map .str):=by
  show((b8 _ _ ρ).bind be).bind _=_;rw[r,Wa,jp q o i];rfl
 have z:w.length<=100:=by
  obtain⟨_,_,v,e,h⟩:=hI.val _ j;injection e with e
  rw[e];omega
 have n:rh (setAt 0) rF (d6 n6 (d6 Lo (b9 3) (b9 4)) (b9 0)) ((FS A B p).map D.str) (List.replicate 1 none++ρ)=some (((FS A B p).map D.str).map λd=>match d with | .str s=>D.str (w++s) | _=>.non):=
  y_ _ λd hd=>by
   obtain⟨s,k,rfl⟩:=List.mem_map.mp hd;refine⟨some (.str s)::ρ,rfl,?_⟩;rw[<- a];show(PF (c.map λp=>k2 p.1) (c.map λp=>p.2) ((p.1:Int),(p.2:Int))).bind (λx=>n6 x (.str s))=_;rw[Pe λe m=>J2 _ (hI.val e m).2.1,show(Sum.inr ((p.1:Int),(p.2:Int)):Ky)=vL p from rfl,wJ hI.nd j];show(if w.length+s.length<=sizeLine then _ else _)=_;have:=Ig A B p s k;rw[Wc (IV (by omega))]
 unfold En uh;rw[l,Wa,Wc (IV (by rw[V9];have:=H_ A B p;omega)),n,List.map_map];show some (D.lst _)=some (.lst (((FS A B p).map λs=>w++s).map .str));rw[List.map_map];rfl
def EY(A B:Bk)(e:Ky×D):(Fj A B e).length<=6:=by
 unfold Fj;split
 ·rw[V9];exact H_ _ _ _
 ·simp
theorem Aq(i:A.Ok)(g:B.Ok){L:Nat}(hI:BI (JZ A B) (HN A B) (vL (0,0)) a [] L)(f:L<=100):∀(l:KI) (o:OD) (C:List Str),(∀e∈l,e∈a)->C.length+6*l.length<=1000 ->
  ∃c,wX (setAt 3) (y8 4 En) (l.map λe=>.tup [.int (k2 e.1).1,.int (k2 e.1).2]) [some A.d,some B.d,some (.dcp (a.map λp=>k2 p.1) (a.map λp=>p.2)),o] (C.map .str)=some (.nx [some A.d,some B.d,some (.dcp (a.map λp=>k2 p.1) (a.map λp=>p.2)),c],(C++l.flatMap (Fj A B)).map .str)
 | [],o,C,_,_=>⟨o,by simp[wX]⟩
 | e::l,o,C,h,hc=>by
  have b:=h e Ws;obtain⟨_,s,w,n,_⟩:=hI.val e b;obtain⟨p,q,r⟩:=wA.mp s;have t:e=(vL p,.str w):=Prod.ext r n;subst t;rw[WH] at hc;have hcl:=EY A B (vL p,.str w);obtain⟨c,m⟩:=Aq i g hI f l (some (RA p)) (C++Fj A B (vL p,.str w)) (λe b=>h e (Wt _ b)) (by rw[WB];omega);refine⟨c,?_⟩;rw[List.flatMap_cons,<- List.append_assoc,<- m];have k:=NE i g hI f b q;show(y8 4 En [some A.d,some B.d,some (.dcp (a.map λp=>k2 p.1) (a.map λp=>p.2)),some (RA p)] (C.map .str)).bind _=_
  have j:y8 4 En [some A.d,some B.d,some (.dcp (a.map λp=>k2 p.1) (a.map λp=>p.2)),some (RA p)] (C.map .str)=some (.nx [some A.d,some B.d,some (.dcp (a.map λp=>k2 p.1) (a.map λp=>p.2)),some (RA p)],(C++Fj A B (vL p,.str w)).map .str):=by
   show(En _).bind _=_;rw[k,Wa];show(if _/\_ then _ else _)=_;rw[Wc ⟨rfl,IV (by rw[V9,V9];omega)⟩,Xb]
  rw[j];rfl
theorem strs_map:∀C:List Str,zb (C.map .str)=some C
 | []=>rfl
 | s::C=>by show(zb (C.map .str)).map (s::·)=_;rw[strs_map C];rfl
theorem Ia(xs:List Str):∀n:Nat,rX (qQ xs) n<=n/\∀j,j<=n->(xs.getD (rX (qQ xs) n) Str.empty).length<=(xs.getD j Str.empty).length
 | 0=>⟨Wl _,λj b=>by rw[Nat.le_zero.mp b];exact Wl _⟩
 | n+1=>by
  obtain⟨h1,d⟩:=Ia xs n;show(if qQ xs (n+1) (rX (qQ xs) n) then n+1 else rX (qQ xs) n)<=n+1/\∀j,j<=n+1->(xs.getD (if qQ xs (n+1) (rX (qQ xs) n) then n+1 else rX (qQ xs) n) Str.empty).length<=_;cases c:qQ xs (n+1) (rX (qQ xs) n) with
  | true =>
   have a:=Xh c;rw[Wc rfl];refine⟨Wl _,λj b=>?_⟩;rcases Nat.lt_or_ge n j with z | z
   ·rw[show j=n+1 by omega];exact Wl _
   ·have:=d j z;omega
  | false =>
   have a:=of_decide_eq_false c;rw[Wu (by simp)];refine⟨by omega,λj b=>?_⟩;rcases Nat.lt_or_ge n j with z | z
   ·rw[show j=n+1 by omega];omega
   ·exact d j z
def Qe(h:C.length<=1000)(k:∀c∈C,c.length<=1000):(C=[]/\zy [.lst (C.map .str)]=some .non)\/∃c∈C,zy [.lst (C.map .str)]=some (.str c)/\∀c'∈C,c.length<=c'.length:=by
 have j:C.all (λx=>decide (x.length<=100000))=true:=Xe.mpr λc g=>by have:=k c g;simp;omega
 have e:zy [.lst (C.map .str)]=some (if C.isEmpty then .non else .str (C.getD (rX (qQ C) (C.length - 1)) Str.empty)):=by
  show(zb _).bind _=_;rw[strs_map,Wa,Wc ⟨by omega,j⟩]
 cases C with
 | nil=>exact .inl ⟨rfl,e⟩
 | cons c0 C0 =>
  obtain⟨b1,b2⟩:=Ia (c0::C0) ((c0::C0).length - 1);have a:rX (qQ (c0::C0)) ((c0::C0).length - 1)<(c0::C0).length:=by rw[WH] at *;omega
  refine .inr ⟨_,?_,e,λc' b=>?_⟩
  ·rw[Wn,List.getElem?_eq_getElem a]
   exact List.getElem_mem a
  ·obtain⟨i,d⟩:=List.getElem?_of_mem b
   have f:=(Wm.mp d).1;have:=b2 i (by omega);rw[show(c0::C0).getD i Str.empty=c' by rw[Wn,d];rfl] at this;exact this
def Told(A B:Bk)(d:D):Prop:=(d=.non/\MP A B)\/∃u,Wd u/\d=.str (txt u)/\Pt A B u/\V0 A B u.length/\u.length<=1000
def nw(M:A.Ok)(K:B.Ok):∃d,bZ [A.d,B.d]=some d/\Told A B d:=by
 obtain⟨a,L,hI,hL,hw⟩:=IA M K;have hkl:a.length<=64:=WD hI.len (KY M K);obtain⟨Z,H⟩:=Aq M K hI hL a none [] (λe o=>o) (by simp;omega);generalize J:a.flatMap (Fj A B)=C at H
 have m:∀{p:Pp} {w s:Str},(vL p,D.str w)∈a->s∈FS A B p->w++s∈C:=λ{p w s} h1 Y=>by
  rw[<- J];exact List.mem_flatMap.mpr ⟨_,h1,List.mem_map.mpr ⟨s,Y,rfl⟩⟩
 have F:∀c∈C,∃u,Wd u/\c=txt u/\Pt A B u:=λc g=>by
  rw[<- J] at g;obtain⟨e,o,x⟩:=List.mem_flatMap.mp g;obtain⟨_,U,w,t,_⟩:=hI.val e o;obtain⟨p,i,n⟩:=wA.mp U;have W:e=(vL p,.str w):=Prod.ext n t;subst W;obtain⟨u,f,S,rfl⟩:=K6 M K hI _ _ w rfl o;cases MZ S;obtain⟨s,E,rfl⟩:=List.mem_map.mp x;have h:s∈FS A B (run A B u):=E;unfold FS at h;split at h
  ·rename_i j
   rw[Wh.mp h];refine⟨u,f,?_,qh j⟩;show(⟨(txt u).cps++#[]⟩:Str)=_;rw[Array.append_empty]
  ·obtain⟨k,n,rfl⟩:=List.mem_map.mp h
   obtain⟨h6,hd⟩:=List.mem_filter.mp n;exact⟨u++[k],sJ.mpr ⟨f,List.mem_range.mp h6⟩,(txt_snoc u k).symm,z_.mpr (.inl hd)⟩
 have q:∀u,Wd u->Pt A B u->∃c∈C,c.length<=u.length:=λu f i=>by
  have y:∀v,Wd v->JX A B (run A B v)=true->∃c∈C,c.length<=v.length:=λv z j=>by
   obtain⟨w,r,N⟩:=A5 hI _ v rfl z;refine⟨_,m r (s:=oS "") (by unfold FS;rw[Wc j];exact Wh.mpr rfl),?_⟩;rw[str_len,show(oS "").length=0 by decide +kernel];omega
  rcases snoc_cases u with rfl | ⟨v,k,rfl⟩
  ·exact y [] f (GL.mp i)
  ·obtain⟨z,n⟩:=sJ.mp f
   rcases z_.mp i with hd | j
   ·cases j:JX A B (run A B v) with
    | true =>
     obtain⟨c,h1,Y⟩:=y v z j;exact⟨c,h1,by simp;omega⟩
    | false =>
     obtain⟨w,r,N⟩:=A5 hI _ v rfl z;refine⟨_,m r (s:=Q8 k) (by unfold FS;rw[Wu (by rw[j];simp)];exact List.mem_map.mpr ⟨k,List.mem_filter.mpr ⟨List.mem_range.mpr n,hd⟩,rfl⟩),?_⟩;rw[str_len,yE (Av n)];simp;omega
   ·exact y _ f (by rw[vg];exact j)
 have I:C.length<=1000:=by
  rw[<- J]
  have:∀l:KI,(l.flatMap (Fj A B)).length<=6*l.length:=λl=>by
   induction l with
   | nil=>simp
   | cons e l ih=>rw[List.flatMap_cons,WB,WH];have:=EY A B e;omega
  have:=this a;omega
 have b:∀c∈C,c.length<=1000:=λc g=>by
  rw[<- J] at g;obtain⟨e,o,x⟩:=List.mem_flatMap.mp g;obtain⟨_,U,w,t,j⟩:=hI.val e o;obtain⟨p,i,n⟩:=wA.mp U;have W:e=(vL p,.str w):=Prod.ext n t;subst W;obtain⟨s,E,rfl⟩:=List.mem_map.mp x;have:=Ig A B _ s E;rw[str_len];omega
 have X:∀d,zy [.lst (C.map .str)]=some d->bZ [A.d,B.d]=some d:=λd hd=>by
  show rm (i4 (i7 (KZ A B) (setAt 2)) _ [some A.d,some B.d,none,none,none])=_;rw[tY (vF (hw [none,none,none]) rfl)];show rm ((A3 (A6 (b9 2)) (setAt 3) (y8 4 En) [some A.d,some B.d,some (.dcp (a.map λp=>k2 p.1) (a.map λp=>p.2)),none] []).bind _)=_
  have m:A6 (b9 2) [some A.d,some B.d,some (.dcp (a.map λp=>k2 p.1) (a.map λp=>p.2)),none]=some (a.map λe=>.tup [.int (k2 e.1).1,.int (k2 e.1).2]):=by
   show some ((a.map λp=>k2 p.1).map _)=_;rw[List.map_map];rfl
  have Q:A3 (A6 (b9 2)) (setAt 3) (y8 4 En) [some A.d,some B.d,some (.dcp (a.map λp=>k2 p.1) (a.map λp=>p.2)),none] []=some (.nx [some A.d,some B.d,some (.dcp (a.map λp=>k2 p.1) (a.map λp=>p.2)),Z],C.map .str):=by
   show(A6 (b9 2) _).bind _=_;rw[m,Wa];exact H
  rw[Q,Wa];show rm ((zy [.lst (C.map .str)]).map .rt)=_;rw[hd];rfl
 rcases Qe I b with ⟨o,P⟩ | ⟨c,g,P,G⟩
 ·refine⟨_,X _ P,.inl ⟨rfl,λu f i=>?_⟩⟩
  obtain⟨c,g,_⟩:=q u f i;rw[o] at g;cases g
 ·obtain⟨u,f,rfl,i⟩:=F c g
  have E:=b _ g;rw[jv f] at E;refine⟨_,X _ P,.inr ⟨u,f,rfl,i,⟨⟨u,f,rfl,i⟩,λv z hlt O=>?_⟩,E⟩⟩;obtain⟨c',T,hl'⟩:=q v z O;have:=G c' T;rw[jv f] at this;omega
def Uy(h:c ρ=some false):uG c f g ρ=g ρ:=by simp[h]
def rT{a:Type}[DecidableEq a](κ:Nat->a)(n i:Nat):Nat:=(List.range n).findIdx λj=>decide (κ j=κ i)
def Gr{a:Type}[DecidableEq a]{κ:Nat->a}{n i:Nat}(b:i<n):rT κ n i<n:=by
 unfold rT;have:=List.findIdx_lt_length_of_exists (xs:=List.range n) (p:=λj=>decide (κ j=κ i)) ⟨i,List.mem_range.mpr b,by simp⟩
 rwa [List.length_range] at this
def Gj{a:Type}[DecidableEq a]{κ:Nat->a}{n i:Nat}(b:i<n):κ (rT κ n i)=κ i:=by
 have h:=Gr (κ:=κ) b;have w:(List.range n).findIdx (λj=>decide (κ j=κ i))<(List.range n).length:=by rw[List.length_range];exact h
 have:=List.findIdx_getElem (w:=w);rw[List.getElem_range] at this;exact Xh this
def Nz{a:Type}[DecidableEq a]{κ:Nat->a}{n i j:Nat}(b:j<rT κ n i):κ j≠κ i:=by
 have:=List.not_of_lt_findIdx (xs:=List.range n) (p:=λj=>decide (κ j=κ i)) b;rw[List.getElem_range] at this;simpa using this
def P7{a:Type}[DecidableEq a]{κ:Nat->a}{n i:Nat}(b:i<n):rT κ n i<=i:=by
 rcases Nat.lt_or_ge i (rT κ n i) with h | h
 ·exact Wz rfl (Nz h)
 ·exact h
def D4{a:Type}[DecidableEq a]{κ:Nat->a}{n i j:Nat}(c:i<n)(b:j<n):rT κ n i=rT κ n j↔κ i=κ j:=by
 constructor
 ·intro h
  exact(Gj c).symm.trans ((congrArg κ h).trans (Gj b))
 ·intro h
  unfold rT;rw[h]
def Nm{b:Type}[DecidableEq b]{κ:Nat->b}{n i:Nat}(a:i<n):rT κ n (rT κ n i)=rT κ n i:=(D4 (Gr a) a).mpr (Gj a)
structure N8 (n:Nat) (h:Nat->Nat):Prop where
 le:∀i,i<n->h i<=i
 id:∀i,i<n->h (h i)=h i
def Le[DecidableEq b](κ:Nat->b)(n:Nat):N8 n (rT κ n):=⟨λ_ a=>P7 a,λ_ a=>Nm a⟩
def Bn(n:Nat)(h:Nat->Nat):Nat:=((List.range n).filter λi=>decide (h i=i)).length
theorem CZ:∀{l:List Nat},(∀x∈l,p x=true->q x=true)->(∃x∈l,q x=true/\p x=false)->(l.filter p).length<(l.filter q).length
 | [],_,h=>by obtain⟨x,c,_⟩:=h;cases c
 | a::l,h1,h2=>by
  have le:(l.filter p).length<=(l.filter q).length:=by
   have:∀l:List Nat,(∀x∈l,p x=true->q x=true)->(l.filter p).length<=(l.filter q).length:=λl=>by
    induction l with
    | nil=>intro _;exact Wl _
    | cons b l d =>
     intro h;have d:=d λx c=>h x (Wt _ c)
     have j:=h b Ws;rw[List.filter_cons,List.filter_cons];cases e:p b with
     | true=>rw[j e];simp;exact d
     | false =>
      cases f:q b with
      | true=>simp;omega
      | false=>simpa using d
   exact this l λx c=>h1 x (Wt _ c)
  rw[List.filter_cons,List.filter_cons];obtain⟨x,c,f,e⟩:=h2;rcases Wo.mp c with rfl | c
  ·rw[f,e];simp;omega
  ·have d:=CZ (l:=l) (λx c=>h1 x (Wt _ c)) ⟨x,c,f,e⟩
   have k:=h1 a Ws;cases g:p a with
   | true=>rw[k g];simp;exact d
   | false =>
    cases i:q a with
    | true=>simp;omega
    | false=>simpa using d
def PU{n:Nat}(f:N8 n h)(b:N8 n h')(r:∀i j,i<n->j<n->h' i=h' j->h i=h j)(x:∃i,i<n/\h' i≠h i):Bn n h<Bn n h':=by
 refine CZ (λi a g=>?_) ?_
 ·have a:=List.mem_range.mp a
  have e:h i=i:=Xh g;have d:=b.le i a;have l:h (h' i)=h i:=r _ _ (by omega) a (b.id i a);have k:=f.le (h' i) (by omega);exact WP (by omega)
 ·obtain⟨i,a,c⟩:=x
  have d:=b.le i a;refine⟨h' i,List.mem_range.mpr (by omega),WP (b.id i a),Wx λz=>c ?_⟩;rw[<- z];exact r _ _ (by omega) a (b.id i a)
def PL(n:Nat)(h:Nat->Nat):Bn n h<=n:=by
 unfold Bn;exact WD (List.length_filter_le _ _) (by simp)
structure vh where
 n:Nat
 lk:Nat->Face×Bool
 dd:Nat->Nat->rH
 g:Nat->Nat->Nat
 gn:∀i k,i<n->k<6->g i k<n
 n1:1<=n
 n8:n<=8
section
variable{a:vh}
def Iu(a:vh)(i:Nat):(Face×Bool)×List rH:=(a.lk i,(List.range 6).map (a.dd i))
def Bm(a:vh)(h:Nat->Nat)(i:Nat):Nat×List Nat:=(h i,(List.range 6).map λk=>h (a.g i k))
def d5(a:vh):Nat->Nat->Nat
 | 0=>rT (Iu a) a.n
 | t+1=>rT (Bm a (d5 a t)) a.n
def Ls:(List.range 6).map f=(List.range 6).map g↔∀k,k<6->f k=g k:=by
 constructor
 ·intro h k b
  have:=congrArg (λl=>l[k]?) h;simpa [Wg,List.getElem?_range b] using this
 ·intro h
  exact List.map_congr_left λk b=>h k (List.mem_range.mp b)
def QL{i j:Nat}:Iu a i=Iu a j↔a.lk i=a.lk j/\∀k,k<6->a.dd i k=a.dd j k:=by
 unfold Iu;rw[Prod.mk.injEq,Ls]
def NB{i j:Nat}:Bm a h i=Bm a h j↔h i=h j/\∀k,k<6->h (a.g i k)=h (a.g j k):=by
 unfold Bm;rw[Prod.mk.injEq,Ls]
def tL(t:Nat):N8 a.n (d5 a t):=by
 cases t with
 | zero=>exact Le _ _
 | succ t=>exact Le _ _
def HA{i j:Nat}(c:i<a.n)(b:j<a.n):d5 a 0 i=d5 a 0 j↔a.lk i=a.lk j/\∀k,k<6->a.dd i k=a.dd j k:=(D4 c b).trans QL
def C4(t:Nat){i j:Nat}(c:i<a.n)(b:j<a.n):d5 a (t+1) i=d5 a (t+1) j↔d5 a t i=d5 a t j/\∀k,k<6->d5 a t (a.g i k)=d5 a t (a.g j k):=(D4 c b).trans NB
def AW(t:Nat):∀i j,i<a.n->j<a.n->d5 a (t+1) i=d5 a (t+1) j->d5 a t i=d5 a t j:=λi j c b h=>((C4 t c b).mp h).1
def xH{T:Nat}(hT:∀i,i<a.n->d5 a (T+1) i=d5 a T i){i j:Nat}(c:i<a.n)(b:j<a.n)(h:d5 a T i=d5 a T j):a.lk i=a.lk j/\(∀k,k<6->a.dd i k=a.dd j k)/\∀k,k<6->d5 a T (a.g i k)=d5 a T (a.g j k):=by
 have h1:d5 a (T+1) i=d5 a (T+1) j:=by rw[hT i c,hT j b,h]
 have d:∀t i j,i<a.n->j<a.n->d5 a t i=d5 a t j->d5 a 0 i=d5 a 0 j:=λt=>by
  induction t with
  | zero=>exact λ_ _ _ _ h=>h
  | succ t ih=>exact λi j c b h=>ih i j c b (AW t i j c b h)
 have h0:=(HA c b).mp (d T i j c b h);exact⟨h0.1,h0.2,((C4 T c b).mp h1).2⟩
end
noncomputable def d9(A:Bk)(ok:A.Ok):vh:=⟨A.modes.length,λi=>((A.md i).face,(A.md i).stays),λi k=>((A.md i).row k).1,λi k=>((A.md i).row k).2,
 λi k a b=>(tF ok a).nx _ (Wi (zc (by rw[(tF ok a).six];exact b))),ok.some1,ok.some8⟩
theorem lj:∀(xs:List a),(∀x∈xs,e (some (T x)::ρ)=some (f x))->rh (setAt 0) rF e (xs.map T) (none::ρ)=some (xs.map f)
 | [],_=>rfl
 | x::xs,h=>by
  have h1:=h x Ws;have b:=lj xs λy c=>h y (Wt _ c)
  have h0:setAt 0 (T x) (none::ρ)=some (some (T x)::ρ):=rfl;rw[Ww];simp only[rh,h0,Wa,rF,if_true,h1,b,Option.map_some,Ww]
def IE{a:Type}{T f:a->D}{it:R->V3 LD}{e:R->OD}{ρ:R}{xs:List a}(b:it ρ=some (xs.map T))(c:xs.length<=1000)(h:∀x∈xs,e (some (T x)::ρ)=some (f x)):uh 1 it (setAt 0) rF e ρ=some (.lst (xs.map f)):=by
 unfold uh;rw[b,Wa,Wc (IV (by rw[V9];omega))];show(rh (setAt 0) rF e (xs.map T) (none::ρ)).map D.lst=_;rw[lj xs h];rfl
def NO(A:Bk)(f:Md->b):A.modes.map f=(List.range A.modes.length).map λi=>f (A.md i):=by
 apply List.ext_getElem?;intro i;rw[Wg,Wg];by_cases a:i<A.modes.length
 ·rw[List.getElem?_range a,List.getElem?_eq_getElem a]
  unfold Bk.md;show _=some (f (A.modes.getD i default));rw[Wn,List.getElem?_eq_getElem a];rfl
 ·rw[W8 (by omega),W8 (by simpa using a)];rfl
theorem yd{a:Type}[DecidableEq a]{f g:Nat->D}{u v:Nat->a}(h:∀k,zB (f k) (g k)=decide (u k=v k)):∀l:List Nat,xM (l.map f) (l.map g)=decide (l.map u=l.map v)
 | []=>rfl
 | x::l=>by
  show(zB (f x) (g x)&&xM (l.map f) (l.map g))=_;rw[h x,yd h l,<- Bool.decide_and];exact decide_eq_decide.mpr (by rw[Ww,Ww,List.cons.injEq])
def fk(i j:Nat):zB (.int (i:Int)) (.int (j:Int))=decide (i=j):=by
 show((i:Int)==(j:Int))=_;by_cases h:i=j
 ·subst h;simp
 ·rw[Wx h,WQ.mpr (by omega)]
def lF(x y:Str):zB (.str x) (.str y)=decide (x=y):=by
 show(x==y)=_;by_cases h:x=y
 ·subst h;simp
 ·rw[Wx h,WQ.mpr h]
theorem vf{a:Type}{f:a->D}(h:∀x,qS (f x)=true):∀l:List a,q_ (l.map f)=true
 | []=>rfl
 | x::l=>by show(qS (f x)&&q_ _)=true;rw[h x,vf h l];rfl
theorem yp{a:Type}{f:a->D}{m:Nat}(h:∀x,rZ (f x)<=m):∀l:List a,rP (l.map f)<=m
 | []=>W4 _
 | x::l=>by
  have:=h x;have:=yp h l;simp only[Ww,rP];omega
def Ke(d:rH):qS (.str d.x)=true:=by cases d<;>decide +kernel
def LW(d:Face):qS (.str d.x)=true:=by cases d<;>decide +kernel
def jF{b:Type}[DecidableEq b]{T:Nat->D}{κ:Nat->b}{n:Nat}(e:n<=8)(h:∀i j,zB (T j) (T i)=decide (κ j=κ i))(c:∀i,qS (T i)=true)(hd:∀i,rZ (T i)<=100) :
  aw [.lst ((List.range n).map T)]=some (.lst ((List.range n).map λi=>.int (rT κ n i:Int))):=by
 refine tZ (IE (T:=T) (xs:=List.range n) rfl (by simp;omega) λi a=>?_);have a:=List.mem_range.mp a;show A9 [.lst ((List.range n).map T),T i]=_
 have d:((List.range n).map T).findIdx (λy=>zB y (T i))=rT κ n i:=by
  rw[List.findIdx_map];unfold rT;congr 1;funext j;exact h i j
 show(if _ then (if ((List.range n).map T).findIdx (λy=>zB y (T i))<_ then some (D.int ((((List.range n).map T).findIdx (λy=>zB y (T i)):Nat):Int)) else none) else none)=_;rw[d,Wc ⟨hd i,c i,vf c _,by simp;omega⟩,Wc (by simpa using Gr a)]
def qX(n:Nat)(h:Nat->Nat):D:=.lst ((List.range n).map λi=>.int (h i:Int))
def Q1:via 2 2 g [x,y]=rm (g [some x,some y]):=rfl
def LE{n i:Nat}(a:i<n):e8 (qX n h) (.int (i:Int))=some (.int (h i:Int)):=by
 show C9 _ (i:Int)=_;exact yJ (by rw[Wg,List.getElem?_range a];rfl)
def nW(ok:A.Ok){i:Nat}(a:i<A.modes.length):af [(A.md i).d,qX A.modes.length h]=some (.lst ((List.range 6).map λk=>.int (h ((d9 A ok).g i k):Int))):=by
 refine tZ (IE (T:=λk=>D.int (((A.md i).row k).2:Int)) (xs:=List.range 6) ?_ (by simp) λk b=>?_)
 ·show((d3 bi (b8 (b9 0) d4)) [some (A.md i).d,some (qX A.modes.length h)]).bind _=_
  rw[tG (x:=(A.md i).d) rfl (eU (tF ok a).six)];rfl
 ·exact LE ((d9 A ok).gn i k a (List.mem_range.mp b))
def pU(ok:A.Ok)(h:Nat->Nat):au [.tup (A.modes.map Md.d),qX A.modes.length h]=some (qX A.modes.length (rT (Bm (d9 A ok) h) A.modes.length)):=by
 have n8:=ok.some8
 have b:uh 1 (rj (d3 rY (b8 (b9 0) d4))) (setAt 0) rF (l9 (b8 (d6 e8 (b9 2) (b9 0)) (b8 (d3 af (b8 (d6 e8 (b9 1) (b9 0)) (b8 (b9 2) d4))) d4))) [some (.tup (A.modes.map Md.d)),some (qX A.modes.length h)]=some (.lst ((List.range A.modes.length).map λi=>.tup [.int (h i:Int),.lst ((List.range 6).map λk=>.int (h ((d9 A ok).g i k):Int))])):=by
  refine IE (T:=λi:Nat=>D.int (i:Int)) (xs:=List.range A.modes.length) ?_ (by simp;omega) λi e=>?_
  ·have c:d3 rY (b8 (b9 0) d4) [some (.tup (A.modes.map Md.d)),some (qX A.modes.length h)]=some (.int (A.modes.length:Int)):=by
    show some (D.int ((A.modes.map Md.d).length:Int))=_;rw[V9]
   rw[inR c (by omega)];unfold sa;simp
  ·have e:=List.mem_range.mp e
   have a1:d6 e8 (b9 2) (b9 0) [some (.int (i:Int)),some (.tup (A.modes.map Md.d)),some (qX A.modes.length h)]=some (.int (h i:Int)):=LE e;have a2:d6 e8 (b9 1) (b9 0) [some (.int (i:Int)),some (.tup (A.modes.map Md.d)),some (qX A.modes.length h)]=some (A.md i).d:=HR e
   have a3:d3 af (b8 (d6 e8 (b9 1) (b9 0)) (b8 (b9 2) d4)) [some (.int (i:Int)),some (.tup (A.modes.map Md.d)),some (qX A.modes.length h)]=some (.lst ((List.range 6).map λk=>.int (h ((d9 A ok).g i k):Int))):=by
    show((d6 e8 (b9 1) (b9 0) _).bind λx=>((some (qX A.modes.length h)).bind λy=>(some []).map (y::·)).map (x::·)).bind af=_;rw[a2];exact nW ok e
   show((d6 e8 (b9 2) (b9 0) _).bind λx=>((d3 af _ _).bind λy=>(some []).map (y::·)).map (x::·)).map D.tup=_;rw[a1,a3];rfl
 have a:aw [.lst ((List.range A.modes.length).map λi=>.tup [.int (h i:Int),.lst ((List.range 6).map λk=>.int (h ((d9 A ok).g i k):Int))])]=some (.lst ((List.range A.modes.length).map λi=>.int (rT (Bm (d9 A ok) h) A.modes.length i:Int))):=by
  refine jF n8 (λi j=>?_) (λi=>?_) λi=>?_
  ·show(zB (.int (h j:Int)) (.int (h i:Int))&&(xM ((List.range 6).map λk=>.int (h ((d9 A ok).g j k):Int)) ((List.range 6).map λk=>.int (h ((d9 A ok).g i k):Int))&&true))=_
   rw[fk,yd (u:=λk=>h ((d9 A ok).g j k)) (v:=λk=>h ((d9 A ok).g i k)) (λk=>fk _ _),Bool.and_true,<- Bool.decide_and];refine decide_eq_decide.mpr ?_;unfold Bm;rw[Prod.mk.injEq]
  ·simp only[qS,q_]
   rw[vf (λk=>rfl)];rfl
  ·have:=yp (f:=λk=>D.int (h ((d9 A ok).g i k):Int)) (m:=5) (λk=>by simp[rZ]) (List.range 6)
   simp only[rZ,rP];omega
 exact(Q1 (g:=cN)).trans (tZ (tG b a))
def nr(ok:A.Ok)(t:Nat):au [.tup (A.modes.map Md.d),qX A.modes.length (d5 (d9 A ok) t)]=some (qX A.modes.length (d5 (d9 A ok) (t+1))):=pU ok (d5 (d9 A ok) t)
def Nf:d3 F (b8 (b9 0) (b8 (b9 1) d4)) (some x::some y::r)=F [x,y]:=rfl
def Q9(h:f [some x,some y,o]=some d):i7 f (setAt 2) [some x,some y,o]=some (.nx [some x,some y,some d]):=vF h rfl
def HQ(ok:A.Ok)(t:Nat)(o:OD):i7 (d3 au (b8 (b9 0) (b8 (b9 1) d4))) (setAt 2) [some (.tup (A.modes.map Md.d)),some (qX A.modes.length (d5 (d9 A ok) t)),o]=some (.nx [some (.tup (A.modes.map Md.d)),some (qX A.modes.length (d5 (d9 A ok) t)),some (qX A.modes.length (d5 (d9 A ok) (t+1)))]):=
 Q9 (Nf.trans (nr ok t))
def Sy(n:Nat)(h h':Nat->Nat):uq (qX n h) (qX n h')=some (!decide (∀i,i<n->h i=h' i)):=by
 have hd:rZ (qX n h)<=100:=by
  have:=yp (f:=λi=>D.int (h i:Int)) (m:=5) (λk=>by simp[rZ]) (List.range n);unfold qX;simp only[rZ];omega
 unfold uq EG;rw[Wc ⟨hd,vf (λk=>rfl) _,vf (λk=>rfl) _⟩];show some (!xM ((List.range n).map λi=>.int (h i:Int)) ((List.range n).map λi=>.int (h' i:Int)))=_;rw[yd (u:=h) (v:=h') λk=>fk _ _];congr 2;apply decide_eq_decide.mpr;constructor
 ·intro z i a
  have:=congrArg (λl=>l[i]?) z;simpa [Wg,List.getElem?_range a] using this
 ·exact λz=>List.map_congr_left λi a=>z i (List.mem_range.mp a)
def H0:R->V3 Out:=(i4 (i7 (b9 2) (setAt 1)) (i7 (d3 au (b8 (b9 0) (b8 (b9 1) d4))) (setAt 2)))
theorem jQ(ok:A.Ok):∀(m t:Nat),9<=m+Bn A.modes.length (d5 (d9 A ok) t)->∃T,(∀i,i<A.modes.length->d5 (d9 A ok) (T+1) i=d5 (d9 A ok) T i)/\∃o,DQ (i9 uq (b9 2) (b9 1)) H0 m [some (.tup (A.modes.map Md.d)),some (qX A.modes.length (d5 (d9 A ok) t)),some (qX A.modes.length (d5 (d9 A ok) (t+1)))]=some (.nx [some (.tup (A.modes.map Md.d)),some (qX A.modes.length (d5 (d9 A ok) T)),o])
 | 0,t,h=>by have:=PL A.modes.length (d5 (d9 A ok) t);have:=ok.some8;omega
 | m+1,t,h=>by
  have c:i9 uq (b9 2) (b9 1) [some (.tup (A.modes.map Md.d)),some (qX A.modes.length (d5 (d9 A ok) t)),some (qX A.modes.length (d5 (d9 A ok) (t+1)))]=some (!decide (∀i,i<A.modes.length->d5 (d9 A ok) (t+1) i=d5 (d9 A ok) t i)):=Sy _ _ _;by_cases f:∀i,i<A.modes.length->d5 (d9 A ok) (t+1) i=d5 (d9 A ok) t i
  ·rw[WP f] at c
   refine⟨t,f,some (qX A.modes.length (d5 (d9 A ok) (t+1))),?_⟩;show(i9 uq (b9 2) (b9 1) _).bind _=_;rw[c];rfl
  ·rw[Wx f] at c
   have g:=PU (tL (a:=d9 A ok) t) (tL (a:=d9 A ok) (t+1)) (AW t) (Classical.byContradiction λz=>f λi j=>Classical.byContradiction λy=>z ⟨i,j,y⟩);obtain⟨T,hT,o,e⟩:=jQ ok m (t+1) (by have:Bn A.modes.length (d5 (d9 A ok) t)<Bn A.modes.length (d5 (d9 A ok) (t+1)):=g;omega);refine⟨T,hT,o,?_⟩
   have b:H0 [some (.tup (A.modes.map Md.d)),some (qX A.modes.length (d5 (d9 A ok) t)),some (qX A.modes.length (d5 (d9 A ok) (t+1)))]=some (.nx [some (.tup (A.modes.map Md.d)),some (qX A.modes.length (d5 (d9 A ok) (t+1))),some (qX A.modes.length (d5 (d9 A ok) (t+2)))]):=by
    unfold H0;rw[tY (vF (d:=qX A.modes.length (d5 (d9 A ok) (t+1))) (ρ':=[some (.tup (A.modes.map Md.d)),some (qX A.modes.length (d5 (d9 A ok) (t+1))),some (qX A.modes.length (d5 (d9 A ok) (t+1)))]) rfl rfl)];exact HQ ok (t+1) _
   unfold DQ;rw[c,Wa];rw[Wc (show(!false)=true from rfl),b];exact e
def mz(ok:A.Ok):∃T,(∀i,i<A.modes.length->d5 (d9 A ok) (T+1) i=d5 (d9 A ok) T i)/\bU [.tup (A.modes.map Md.d)]=some (qX A.modes.length (d5 (d9 A ok) T)):=by
 have n8:=ok.some8;obtain⟨T,hT,o,e⟩:=jQ ok 20 0 (by omega);refine⟨T,hT,?_⟩
 have s1:i7 (d3 aw (b8 (uh 1 (qU (b9 0)) (setAt 0) rF (l9 (b8 (d3 aY (b8 (b9 0) d4)) (b8 (d3 ak (b8 (b9 0) d4)) d4)))) d4)) (setAt 1) [some (.tup (A.modes.map Md.d)),none,none]=some (.nx [some (.tup (A.modes.map Md.d)),some (qX A.modes.length (d5 (d9 A ok) 0)),none]):=by
  refine vF (d:=qX A.modes.length (d5 (d9 A ok) 0)) (tG (x:=.lst ((List.range A.modes.length).map λi=>.tup [.tup [.str (A.md i).face.x,.bl (A.md i).stays],.lst ((List.range 6).map λk=>.str ((A.md i).row k).1.x)])) ?_ ?_) rfl
  ·refine IE (T:=λi=>(A.md i).d) (xs:=List.range A.modes.length) ?_ (by simp;omega) λi a=>?_
   ·show some (A.modes.map Md.d)=_
    rw[NO]
   ·have a:=List.mem_range.mp a
    show((d3 aY (b8 (b9 0) d4) _).bind λx=>((d3 ak (b8 (b9 0) d4) _).bind λy=>(some []).map (y::·)).map (x::·)).map D.tup=_;rw[tG (x:=(A.md i).d) rfl (gR _),tG (x:=(A.md i).d) rfl (gz (tF ok a).six)];rfl
  ·refine jF (κ:=Iu (d9 A ok)) n8 (λi j=>?_) (λi=>?_) λi=>?_
   ·show((zB (.str (A.md j).face.x) (.str (A.md i).face.x)&&(((A.md j).stays==(A.md i).stays)&&true))&&(xM ((List.range 6).map λk=>.str ((A.md j).row k).1.x) ((List.range 6).map λk=>.str ((A.md i).row k).1.x)&&true))=_
    have b:∀f g:Face,zB (.str f.x) (.str g.x)=decide (f=g):=by intro f g;cases f<;>cases g<;>decide +kernel
    rw[b,yd (u:=(d9 A ok).dd j) (v:=(d9 A ok).dd i) λk=>by
     rw[lF];exact decide_eq_decide.mpr ⟨E4,λz=>congrArg rH.x z⟩]
    have c:∀x y:Bool,(x==y)=decide (x=y):=by intro x y;cases x<;>cases y<;>rfl
    rw[Bool.and_true,Bool.and_true,c,<- Bool.decide_and,<- Bool.decide_and];refine decide_eq_decide.mpr ?_;unfold Iu;rw[Prod.mk.injEq];show _↔((A.md j).face,(A.md j).stays)=((A.md i).face,(A.md i).stays)/\_;rw[Prod.mk.injEq]
   ·have h1:=LW (A.md i).face
    have h:=vf (f:=λk=>D.str ((A.md i).row k).1.x) (λk=>Ke _) (List.range 6);simp only[qS,q_] at *
    rw[h1,h];rfl
   ·have:=yp (f:=λk=>D.str ((A.md i).row k).1.x) (m:=5) (λk=>by simp[rZ]) (List.range 6)
    simp only[rZ,rP];omega
 show rm (i4 _ _ [some (.tup (A.modes.map Md.d)),none,none])=_;rw[tY s1];rw[tY (HQ ok 0 none)];show rm (i4 (DQ (i9 uq (b9 2) (b9 1)) H0 20) _ _)=_;rw[tY e];rfl
inductive vZ {α:Type} (pr:List α->α->List α):List α->Nat->List α->Prop
 | done {sn:List α} {i:Nat}:sn.length<=i->vZ pr sn i sn
 | step {sn r:List α} {i:Nat} {x:α}:sn[i]?=some x->vZ pr (pr sn x) (i+1) r->vZ pr sn i r
theorem vZ.block{b:Type}{c:List b->b->List b}(a:∀sn x,∃e,c sn x=sn++e){r:List b}:∀(d:Nat) (sn:List b) (i:Nat),i+d<=sn.length->vZ c (((sn.drop i).take d).foldl c sn) (i+d) r->vZ c sn i r
 | 0,sn,i,_,h=>by simpa using h
 | d+1,sn,i,hl,h=>by
  have g:i<sn.length:=by omega
  refine .step (x:=sn[i]) (List.getElem?_eq_getElem g) (vZ.block a d _ _ ?_ ?_)
  ·obtain⟨e,f⟩:=a sn sn[i]
   rw[f,WB];omega
  ·rw[W6 g,List.take_succ_cons,List.foldl_cons] at h
   obtain⟨e,f⟩:=a sn sn[i];rw[show i+(d+1)=i+1+d by omega] at h
   rw[show((c sn sn[i]).drop (i+1)).take d=(sn.drop (i+1)).take d by
    rw[f,List.drop_append_of_le_length (by omega),List.take_append_of_le_length (by rw[Xq];omega)]]
   exact h
def EL.qr(c:∀sn x,∃e,b sn x=sn++e){i:Nat}(h:EL b sn i r):vZ b sn i r:=by
 induction h with
 | done hl=>exact .done hl
 | step hi _ ih =>
  rename_i sn r i _;refine vZ.block c (sn.length - i) sn i (by omega) ?_;rw[show i+(sn.length - i)=sn.length by omega,List.take_of_length_le (by rw[Xq];exact Wl _)];exact ih
theorem y7[DecidableEq a]:∀(l sn:List a),∃e,l.foldl rG sn=sn++e
 | [],sn=>⟨[],by simp⟩
 | x::l,sn=>by
  rw[List.foldl_cons];unfold rG;split
  ·exact y7 l sn
  ·obtain⟨e,b⟩:=y7 l (sn++[x])
   exact⟨[x]++e,by rw[<- List.append_assoc];exact b⟩
def Hy[DecidableEq a](go:a->List a)(sn:List a)(x:a):∃e,sH go sn x=sn++e:=y7 _ _
def Lx{a b:Type}[DecidableEq a][DecidableEq b]{f:a->b}(d:∀x y,f x=f y->x=y)(sn:List a)(e:a):rG (sn.map f) (f e)=(rG sn e).map f:=by
 unfold rG;by_cases h:e∈sn
 ·rw[Wc h,Wc (List.mem_map.mpr ⟨e,h,rfl⟩)]
 ·rw[Wu h,Wu λz=>h (by obtain⟨y,c,hz⟩:=List.mem_map.mp z;exact d _ _ hz ▸ c),Xb];rfl
theorem CU{a b:Type}[DecidableEq a][DecidableEq b]{f:a->b}(c:∀x y,f x=f y->x=y):∀(l sn:List a),(l.map f).foldl rG (sn.map f)=(l.foldl rG sn).map f
 | [],_=>rfl
 | x::l,sn=>by rw[Ww,List.foldl_cons,List.foldl_cons,Lx c,CU c l]
noncomputable def k7(x:Nat):Ky:=.inl (x:Int)
def ux(x y:Nat)(h:k7 x=k7 y):x=y:=by
 have:=Sum.inl.inj h;omega
def t8(a:vh)(h:Nat->Nat)(x:Nat):List Nat:=(List.range 6).map λk=>h (a.g x k)
def uN(a:vh)(h:Nat->Nat):Ky->List Ky
 | .inl x=>(t8 a h x.toNat).map k7
 | .inr _=>[]
def Bh(a:vh)(h:Nat->Nat)(x:Nat):uN a h (k7 x)=(t8 a h x).map k7:=rfl
def uB(n:Nat):List Ky:=(List.range n).map k7
def sw{n:Nat}:x∈uB n↔∃y,y<n/\x=k7 y:=by
 unfold uB;rw[List.mem_map];constructor
 ·rintro⟨y,a,rfl⟩;exact⟨y,List.mem_range.mp a,rfl⟩
 ·rintro⟨y,a,rfl⟩;exact⟨y,List.mem_range.mpr a,rfl⟩
theorem Bd{n:Nat}:∀(l:List Ky),(∀e∈l,∃y,y<n/\e=k7 y)->∃S:List Nat,l=S.map k7/\∀x∈S,x<n
 | [],_=>⟨[],rfl,λx a=>(by cases a)⟩
 | e::l,h=>by
  obtain⟨y,b,rfl⟩:=h e Ws;obtain⟨S,rfl,c⟩:=Bd l λz hz=>h z (Wt _ hz)
  exact⟨y::S,rfl,λx a=>by rcases Wo.mp a with rfl | z;exact b;exact c x z⟩
def Hq(ok:A.Ok)(d:∀i,i<A.modes.length->h i<A.modes.length):∀x:Ky,x∈uB A.modes.length->(uN (d9 A ok) h x).length=6/\∀e∈uN (d9 A ok) h x,True/\e∈uB A.modes.length:=λx b=>by
 obtain⟨y,a,rfl⟩:=sw.mp b;rw[Bh];refine⟨by simp[t8],λe f=>⟨trivial,?_⟩⟩;obtain⟨z,hz,rfl⟩:=List.mem_map.mp f;obtain⟨k,c,rfl⟩:=List.mem_map.mp hz;exact sw.mpr ⟨_,d _ ((d9 A ok).gn y k a (List.mem_range.mp c)),rfl⟩
def NC(ok:A.Ok)(g:∀i,i<A.modes.length->h i<A.modes.length){c:Nat}(x:Ky)(f:x∈uB A.modes.length):Gives (.cl Gv c [.tup (A.modes.map Md.d),qX A.modes.length h]) (uN (d9 A ok) h) x:=by
 obtain⟨y,e,rfl⟩:=sw.mp f;refine⟨(Hq ok g _ f).1,λρ l j=>?_⟩;unfold x6;rw[l,Wa];show((b9 3 ρ).bind λy=>(some []).map (y::·)).bind _=_;rw[j];show(LL Gv).bind _=_;rw[VX,Wa];have b:uF (.tup (A.modes.map Md.d))=true:=aT jb _;have a:uF (qX A.modes.length h)=true:=aT (λ_=>rfl) _;rw[Wc ⟨rfl,by show(uF _&&(uF _&&true))=true;rw[b,a];rfl,Ue.symm⟩]
 have m:xY 3 K4 ([l6 (k7 y)]++[.tup (A.modes.map Md.d),qX A.modes.length h])=some (.lst ((uN (d9 A ok) h (k7 y)).map l6)):=by
  show d3 af _ [some (.int (y:Int)),some (.tup (A.modes.map Md.d)),some (qX A.modes.length h)]=_;have a2:d6 e8 (b9 1) (b9 0) [some (.int (y:Int)),some (.tup (A.modes.map Md.d)),some (qX A.modes.length h)]=some (A.md y).d:=HR e;show((d6 e8 (b9 1) (b9 0) _).bind λx=>((some (qX A.modes.length h)).bind λy=>(some []).map (y::·)).map (x::·)).bind af=_;rw[a2];refine(nW ok e).trans ?_;rw[Bh,List.map_map,t8,List.map_map];rfl
 rw[m,Wa,Wc (show uF (.lst ((uN (d9 A ok) h (k7 y)).map l6))=true from aT (λk=>by cases k<;>rfl) _)]
theorem DV:∀S:List Nat,xR (S.map λx:Nat=>(Sum.inl (x:Int):Int ⊕ Str))=some (S.map λx:Nat=>(x:Int))
 | []=>rfl
 | x::S=>by show(xR _).map _=_;rw[DV S];rfl
theorem Fp:∀S:List Nat,intsOf (S.map λx:Nat=>D.int (x:Int))=some (S.map λx:Nat=>(x:Int))
 | []=>rfl
 | x::S=>by show(intsOf _).map _=_;rw[Fp S];rfl
def nz(ok:A.Ok)(hh:∀i,i<A.modes.length->h i<A.modes.length):∃S:List Nat,vZ (sH (t8 (d9 A ok) h)) [0] 0 S/\(∀x∈S,x<A.modes.length)/\(∀x∈S,∀k,k<6->h ((d9 A ok).g x k)∈S)/\S.length<=8 /\
  ∀r:R,d3 Dr (b8 (vj ag Gv (b8 (kI 0) d4) (wo [1,2])) d4) (some A.d::some (.tup (A.modes.map Md.d))::some (qX A.modes.length h)::r)=some (.lst (S.map λx:Nat=>.int (x:Int))):=by
 have n1:=ok.some1;have n8:=ok.some8;obtain⟨f,L,hk,hI,hL_q',T⟩:=Ao (go:=uN (d9 A ok) h) (bx:=uB A.modes.length) (s:=k7 0) (lf:=true) (λx o=>by obtain⟨y,_,rfl⟩:=sw.mp o;rfl) (by simp[uB];omega) (sw.mpr ⟨0,n1,rfl⟩) (Hq ok hh)
 have U:∀e∈i8 f,∃y,y<A.modes.length/\e=k7 y:=λe he=>by
  obtain⟨d,hd⟩:=vA he;exact sw.mp (hI.val _ hd).2.1
 obtain⟨S,G,Y⟩:=Bd _ U;have P:=T.qr (Hy _)
 have Q:∀(sn:List Nat) (x:Nat),sH (uN (d9 A ok) h) (sn.map k7) (k7 x)=(sH (t8 (d9 A ok) h) sn x).map k7:=λsn x=>by
  unfold sH;rw[Bh];exact CU ux _ _
 have B:∀{sn:List Nat} {i:Nat} {r:List Ky},vZ (sH (uN (d9 A ok) h)) (sn.map k7) i r->∃I,r=I.map k7/\vZ (sH (t8 (d9 A ok) h)) sn i I:=λ{sn i r} q=>by
  generalize t:sn.map k7=sk at q
  induction q generalizing sn with
  | done hl=>exact⟨sn,t.symm,.done (by rw[<- t,V9] at hl;exact hl)⟩
  | step o _ ih =>
   rw[<- t,Wg] at o;cases m:sn[‹Nat›]? with
   | none=>rw[m] at o;cases o
   | some x =>
    rw[m] at o;cases o;obtain⟨I,h1,h2⟩:=ih (sn:=sH (t8 (d9 A ok) h) sn x) (by rw[<- Q,t]);exact⟨I,h1,.step m h2⟩
 obtain⟨H,hS',O⟩:=B (sn:=[0]) P
 have Z:H=S:=by
  have z:=hS'.symm.trans G
  have inj:∀(x y:List Nat),x.map k7=y.map k7->x=y:=λx=>by
   induction x with
   | nil=>intro y u;cases y with | nil=>rfl | cons=>cases u
   | cons a x ih =>
    intro y u;cases y with
    | nil=>cases u
    | cons b y =>
     rw[Ww,Ww] at u;injection u with h1 h2
     rw[ux _ _ h1,ih y h2]
  exact inj _ _ z
 subst Z
 have F:H.length<=8:=by
  have:=hI.len;have e:(i8 f).length=H.length:=by rw[G,V9]
  have e2:(i8 f).length=f.length:=by simp[i8]
  have e3:(uB A.modes.length).length=A.modes.length:=by simp[uB]
  omega
 refine⟨H,O,Y,λx o k W=>?_,F,λr=>?_⟩
 ·have m:k7 x∈i8 f:=by rw[G];exact List.mem_map.mpr ⟨x,o,rfl⟩
  obtain⟨d,hd⟩:=vA m;obtain⟨_,_,w,C,_⟩:=hI.val _ hd;have N:d=.str w:=C;subst N
  obtain⟨v,hv,_⟩:=hI.cl _ _ hd (by simp) (k7 (h ((d9 A ok).g x k))) (by
   rw[Bh];exact List.mem_map.mpr ⟨_,List.mem_map.mpr ⟨k,List.mem_range.mpr W,rfl⟩,rfl⟩)
  have:k7 (h ((d9 A ok).g x k))∈i8 f:=List.mem_map.mpr ⟨_,hv,rfl⟩;rw[G] at this;obtain⟨y,u,e⟩:=List.mem_map.mp this;exact ux _ _ e ▸ u
 ·have E:f ≠ []:=λz=>by have:=hI.st;rw[z] at this;cases this
  have hd:sQ f=.dct (f.map λp=>k1 p.1) (f.map λp=>p.2):=by
   match f,E,hI with
   | (.inl q,d)::f,_,_=>rfl
   | (.inr q,d)::f,_,hI =>
    obtain⟨y,_,e⟩:=sw.mp (hI.val _ Ws).2.1;cases e
  have ff:∀c,ag [l6 (k7 0),.cl Gv c [.tup (A.modes.map Md.d),qX A.modes.length h]]=some (sQ f):=λc=>by
   show rm (xT ae 4 0 1 (.str (oS "")) [some (l6 (k7 0)),some (.cl Gv c [.tup (A.modes.map Md.d),qX A.modes.length h]),none,none])=_;exact(congrArg rm (Az (g:=ae) (n:=4) (i:=0) (j:=1) (e:=.str (oS "")) (c:=.cl Gv c [.tup (A.modes.map Md.d),qX A.modes.length h]) (ρ:=[some (l6 (k7 0)),some (.cl Gv c [.tup (A.modes.map Md.d),qX A.modes.length h]),none,none]) (s:=l6 (k7 0)) (k:=k7 0) (kv:=f) rfl rfl rfl rfl E (hk _ λx o=>NC ok hh x o))).trans rfl
  have nv:EB (sQ f)=true:=by
   rw[hd];show rW (f.map λp=>p.2)=true
   have:∀l:KI,(∀p∈l,∃w,p.2=D.str w)->rW (l.map λp=>p.2)=true:=λl=>by
    induction l with
    | nil=>intro _;rfl
    | cons p l ih =>
     intro J;obtain⟨w,C⟩:=J p Ws;show(uF p.2&&_)=true;rw[C,ih λq P=>J q (Wt _ P)];rfl
   exact this f λp J=>let ⟨_,_,w,C,_⟩:=hI.val p J;⟨w,C⟩
  have M:uF (.tup (A.modes.map Md.d))=true:=aT jb _;have K:uF (qX A.modes.length h)=true:=aT (λ_=>rfl) _
  have X:vj ag Gv (b8 (kI 0) d4) (wo [1,2]) (some A.d::some (.tup (A.modes.map Md.d))::some (qX A.modes.length h)::r)=some (sQ f):=
   A8 (as:=[l6 (k7 0)]) (caps:=[.tup (A.modes.map Md.d),qX A.modes.length h]) rfl rfl (by show(uF _&&(uF _&&true))=true;rw[M,K];rfl) nv ff
  refine(tG X ?_);rw[hd]
  have ek:(f.map λp=>k1 p.1)=H.map λx:Nat=>(Sum.inl (x:Int):Int ⊕ Str):=by
   have:(f.map λp=>k1 p.1)=(i8 f).map k1:=by unfold i8;rw[List.map_map];rfl
   rw[this,G,List.map_map];rfl
  show(xR (f.map λp=>k1 p.1)).bind _=_;rw[ek,DV,Wa,Wc (by rw[V9];omega),List.map_map];rfl
def BK(S:List Nat)(x:Nat):Int:=((S.map λy:Nat=>(y:Int)).idxOf (x:Int):Nat)
def vG(A:Bk)(ok:A.Ok)(h:Nat->Nat)(S:List Nat)(x:Nat):D:=.tup [.str (A.md x).face.x,.bl (A.md x).stays,.tup ((List.range 6).map λk=>.tup [.str ((A.md x).row k).1.x,.int (BK S (h ((d9 A ok).g x k)))])]
def qJ(ok:A.Ok)(e:S.length<=8){x:Nat}(b:x<A.modes.length)(c:∀k,k<6->h ((d9 A ok).g x k)∈S):cz [(A.md x).d,qX A.modes.length h,.lst (S.map λy:Nat=>.int (y:Int))]=some (vG A ok h S x):=by
 have key:uh 1 (qU (d6 e8 (b9 0) (kI 2))) (setAt 0) rF (l9 (b8 (d6 e8 (b9 0) (kI 0)) (b8 (d3 uE (b8 (b9 3) (b8 (d6 e8 (b9 2) (d6 e8 (b9 0) (kI 1))) d4))) d4))) [some (A.md x).d,some (qX A.modes.length h),some (.lst (S.map λy:Nat=>.int (y:Int))),none]=some (.lst ((List.range 6).map λk=>.tup [.str ((A.md x).row k).1.x,.int (BK S (h ((d9 A ok).g x k)))])):=by
  refine IE (T:=λk=>q9 ((A.md x).row k)) (xs:=List.range 6) ?_ (by simp) λk a=>?_
  ·show some ((A.md x).rows.map q9)=_
   rw[im (tF ok b).six]
  ·have a:=List.mem_range.mp a
   have a1:d6 e8 (b9 2) (d6 e8 (b9 0) (kI 1)) [some (q9 ((A.md x).row k)),some (A.md x).d,some (qX A.modes.length h),some (.lst (S.map λy:Nat=>.int (y:Int))),none]=some (.int (h ((d9 A ok).g x k):Int)):=LE ((d9 A ok).gn x k b a)
   have a2:d3 uE (b8 (b9 3) (b8 (d6 e8 (b9 2) (d6 e8 (b9 0) (kI 1))) d4)) [some (q9 ((A.md x).row k)),some (A.md x).d,some (qX A.modes.length h),some (.lst (S.map λy:Nat=>.int (y:Int))),none]=some (.int (BK S (h ((d9 A ok).g x k)))):=by
    show((some (D.lst (S.map λy:Nat=>D.int (y:Int)))).bind λz=>((d6 e8 (b9 2) (d6 e8 (b9 0) (kI 1)) _).bind λy=>(some []).map (y::·)).map (z::·)).bind uE=_;rw[a1];show(intsOf (S.map λy:Nat=>D.int (y:Int))).bind _=_;rw[Fp,Wa,Wc ⟨List.mem_map.mpr ⟨_,c k a,rfl⟩,by rw[V9];omega⟩];rfl
   show((some (D.str ((A.md x).row k).1.x)).bind λz=>((d3 uE _ _).bind λy=>(some []).map (y::·)).map (z::·)).map D.tup=_;rw[a2];rfl
 show rm (i4 _ _ [some (A.md x).d,some (qX A.modes.length h),some (.lst (S.map λy:Nat=>.int (y:Int))),none])=_;rw[tY (vF (ρ':=[some (A.md x).d,some (qX A.modes.length h),some (.lst (S.map λy:Nat=>.int (y:Int))),some (.lst ((List.range 6).map λk=>.tup [.str ((A.md x).row k).1.x,.int (BK S (h ((d9 A ok).g x k)))]))]) key rfl)];rfl
def gQ(ok:A.Ok):∃(T:Nat) (S:List Nat),(∀i,i<A.modes.length->d5 (d9 A ok) (T+1) i=d5 (d9 A ok) T i)/\vZ (sH (t8 (d9 A ok) (d5 (d9 A ok) T))) [0] 0 S/\(∀x∈S,x<A.modes.length)/\(∀x∈S,∀k,k<6->d5 (d9 A ok) T ((d9 A ok).g x k)∈S)/\S.length<=8 /\
  aJ [A.d]=some (.tup [.int A.hold,.int A.back,.tup (S.map (vG A ok (d5 (d9 A ok) T) S))]):=by
 obtain⟨T,hT,o⟩:=mz ok;have m:∀i,i<A.modes.length->d5 (d9 A ok) T i<A.modes.length:=λi e=>Xg ((tL (a:=d9 A ok) T).le i e) e
 obtain⟨S,q,c,j,l,n⟩:=nz ok m;refine⟨T,S,hT,q,c,j,l,?_⟩;generalize d5 (d9 A ok) T=h at *
 have key:uh 1 (qU (b9 3)) (setAt 0) rF (d3 cz (b8 (d6 e8 (b9 2) (b9 0)) (b8 (b9 3) (b8 (b9 4) d4)))) [some A.d,some (.tup (A.modes.map Md.d)),some (qX A.modes.length h),some (.lst (S.map λy:Nat=>.int (y:Int)))]=some (.lst (S.map (vG A ok h S))):=by
  refine IE (T:=λy:Nat=>D.int (y:Int)) (xs:=S) rfl (by omega) λx b=>?_
  have a1:d6 e8 (b9 2) (b9 0) [some (.int (x:Int)),some A.d,some (.tup (A.modes.map Md.d)),some (qX A.modes.length h),some (.lst (S.map λy:Nat=>.int (y:Int)))]=some (A.md x).d:=HR (c x b);show((d6 e8 (b9 2) (b9 0) _).bind λx=>((some (qX A.modes.length h)).bind λy=>((some (D.lst (S.map λy:Nat=>.int (y:Int)))).bind λz=>(some []).map (z::·)).map (y::·)).map (x::·)).bind cz=_;rw[a1];exact qJ ok l (c x b) (j x b)
 show rm (i4 _ _ [some A.d,none,none,none])=_;rw[tY (ρ2:=[some A.d,some (.tup (A.modes.map Md.d)),none,none]) rfl];rw[tY (vF (ρ':=[some A.d,some (.tup (A.modes.map Md.d)),some (qX A.modes.length h),none]) (tG (x:=.tup (A.modes.map Md.d)) rfl o) rfl)];rw[tY (vF (ρ':=[some A.d,some (.tup (A.modes.map Md.d)),some (qX A.modes.length h),some (.lst (S.map λy:Nat=>.int (y:Int)))]) (n [none]) rfl)];refine tZ (SV (f:=d6 e8 (b9 0) (kI 0)) (g:=d6 e8 (b9 0) (kI 1)) (x:=.int A.hold) (y:=.int A.back) rfl rfl (tG key rfl))
noncomputable def wW(A:Bk)(u:List Nat):Nat:=u.foldl (λx k=>((A.md x).row k).2) 0
def tE(A:Bk)(v:List Nat)(k:Nat):wW A (v++[k])=((A.md (wW A v)).row k).2:=by simp[wW]
def EQ(A B:Bk):∀(u:List Nat),run A B u=(wW A u,wW B u):=λu=>by
 have:∀(u:List Nat) (x y:Nat),u.foldl (Nt A B) (x,y)=(u.foldl (λx k=>((A.md x).row k).2) x,u.foldl (λx k=>((B.md x).row k).2) y):=λu=>by
  induction u with
  | nil=>intro x y;rfl
  | cons k u ih=>intro x y;exact ih _ _
 exact this u 0 0
def uR(A:Bk)(x:Nat):Face×Bool:=((A.md x).face,(A.md x).stays)
def GA(A:Bk)(u:List Nat):V3 rH×(Face×Bool):=(u.getLast?.map λk=>((A.md (wW A u.dropLast)).row k).1,uR A (wW A u))
def Hi(A B:Bk)(p:Pp):JX A B p=true↔uR A p.1≠uR B p.2:=by
 unfold JX uR;rw[Bool.not_eq_true',<- Bool.not_eq_true,Wj,decide_eq_true_iff,Xt];exact not_congr (by rw[Prod.mk.injEq])
def Ov(A B:Bk)(p:Pp)(k:Nat):RD A B p k=true↔((A.md p.1).row k).1≠((B.md p.2).row k).1:=by
 unfold RD;rw[Bool.not_eq_true',decide_eq_false_iff_not]
def Kf(A B:Bk)(u:List Nat):Pt A B u↔GA A u≠GA B u:=by
 rcases snoc_cases u with rfl | ⟨v,k,rfl⟩
 ·rw[GL,Hi]
  show uR A 0≠uR B 0↔((none:V3 rH),uR A 0)≠(none,uR B 0);exact not_congr ⟨λz=>by rw[z],λz=>congrArg Prod.snd z⟩
 ·rw[z_,Ov,Hi,EQ]
  unfold GA;rw[List.getLast?_concat,List.dropLast_concat,tE,tE];show _↔(some ((A.md (wW A v)).row k).1,uR A ((A.md (wW A v)).row k).2)≠(some ((B.md (wW B v)).row k).1,uR B ((B.md (wW B v)).row k).2)
  have key:∀(a b:rH) (c d:Face×Bool),(a≠b\/c≠d)↔(some a,c)≠(some b,d):=λa b c d=>by
   constructor
   ·rintro(h | h) z
    ·exact h (Wq (congrArg Prod.fst z))
    ·exact h (congrArg Prod.snd z)
   ·intro h
    by_cases e:a=b
    ·exact .inr λf=>h (by rw[e,f])
    ·exact .inl e
  exact key _ _ _ _
def Al:MP A B↔∀u,Wd u->GA A u=GA B u:=by
 constructor
 ·intro h u a
  exact Classical.byContradiction λz=>h u a ((Kf A B u).mpr z)
 ·intro h u a b
  exact(Kf A B u).mp b (h u a)
def Ew(a b:vh):Nat->Nat->Nat->Prop
 | 0,x,y=>a.lk x=b.lk y/\∀k,k<6->a.dd x k=b.dd y k
 | n+1,x,y=>Ew a b n x y/\∀k,k<6->Ew a b n (a.g x k) (b.g y k)
def AF(a b:vh)(x y:Nat):Prop:=∀n,Ew a b n x y
theorem Ew.symm:∀{n x y:Nat},Ew a b n x y->Ew b a n y x
 | 0,_,_,h=>⟨h.1.symm,λk c=>(h.2 k c).symm⟩
 | n+1,_,_,h=>⟨h.1.symm,λk c=>(h.2 k c).symm⟩
theorem Ew.trans:∀{n x y z:Nat},Ew a b n x y->Ew b c n y z->Ew a c n x z
 | 0,_,_,_,h,h'=>⟨h.1.trans h'.1,λk d=>(h.2 k d).trans (h'.2 k d)⟩
 | n+1,_,_,_,h,h'=>⟨h.1.trans h'.1,λk d=>(h.2 k d).trans (h'.2 k d)⟩
theorem AF.symm{x y:Nat}(h:AF a b x y):AF b a y x:=λn=>(h n).symm
theorem AF.trans{x y z:Nat}(h:AF a b x y)(h':AF b c y z):AF a c x z:=λn=>(h n).trans (h' n)
def AF.go{x y k:Nat}(h:AF a b x y)(c:k<6):AF a b (a.g x k) (b.g y k):=λn=>(h (n+1)).2 k c
theorem E5{T:Nat}(hT:∀i,i<a.n->d5 a (T+1) i=d5 a T i):∀(n x y:Nat),x<a.n->y<a.n->d5 a T x=d5 a T y->Ew a a n x y
 | 0,x,y,hx,hy,h=>by
  obtain⟨h1,d,_⟩:=xH hT hx hy h;exact⟨h1,d⟩
 | n+1,x,y,hx,hy,h=>by
  obtain⟨_,_,c⟩:=xH hT hx hy h;exact⟨E5 hT n x y hx hy h,λk b=>E5 hT n _ _ (a.gn x k hx b) (a.gn y k hy b) (c k b)⟩
theorem Hw:∀(t x y:Nat),x<a.n->y<a.n->Ew a a t x y->d5 a t x=d5 a t y
 | 0,x,y,hx,hy,h=>(HA hx hy).mpr h
 | t+1,x,y,hx,hy,h=>(C4 t hx hy).mpr ⟨Hw t x y hx hy h.1,λk b=>Hw t _ _ (a.gn x k hx b) (a.gn y k hy b) (h.2 k b)⟩
section
variable{a b:vh}{T U:Nat}
structure tH (a b:vh) (T U:Nat) (s t:List Nat):Prop where
 len:s.length=t.length
 at2:∀(i x y:Nat),s[i]?=some x->t[i]?=some y->AF a b x y
 fa:∀x∈s,x<a.n/\d5 a T x=x
 fb:∀y∈t,y<b.n/\d5 b U y=y
def tH.mem(P:tH a b T U s t){x y:Nat}(d:y<b.n/\d5 b U y=y)(e:AF a b x y){i:Nat}(h:s[i]?=some x):t[i]?=some y:=by
 have f:i<t.length:=by rw[<- P.len];exact(Wm.mp h).1
 have c:t[i]?=some t[i]:=List.getElem?_eq_getElem f;have g:=P.at2 i x _ h c;obtain⟨k,j⟩:=P.fb _ (Wi c);have:=Hw U _ _ k d.1 ((g.symm.trans e) U);rw[j,d.2] at this;rw[c,this]
def tH.swap(P:tH a b T U s t):tH b a U T t s:=⟨P.len.symm,λi x y h1 c=>(P.at2 i y x c h1).symm,P.fb,P.fa⟩
def tH.add(P:tH a b T U s t){x y:Nat}(k:x<a.n/\d5 a T x=x)(j:y<b.n/\d5 b U y=y)(e:AF a b x y):tH a b T U (rG s x) (rG t y):=by
 have d:x∈s↔y∈t:=by
  constructor
  ·intro h
   obtain⟨i,c⟩:=List.getElem?_of_mem h;exact Wi (P.mem j e c)
  ·intro h
   obtain⟨i,c⟩:=List.getElem?_of_mem h;exact Wi (P.swap.mem k e.symm c)
 unfold rG;by_cases h:x∈s
 ·rw[Wc h,Wc (d.mp h)];exact P
 ·rw[Wu h,Wu λz=>h (d.mpr z)]
  refine⟨by simp[P.len],λi u v g f=>?_,λz hz=>?_,λz hz=>?_⟩
  ·by_cases c:i<s.length
   ·rw[WV c] at g
    rw[WV (by rw[<- P.len];exact c)] at f;exact P.at2 i u v g f
   ·rw[WI (by omega)] at g
    rw[WI (by rw[<- P.len];omega)] at f;have m:=Wi g;have l:=Wi f;rw[Wh.mp m,Wh.mp l];exact e
  ·rcases WY.mp hz with q | q
   ·exact P.fa z q
   ·rw[Wh.mp q];exact k
  ·rcases WY.mp hz with q | q
   ·exact P.fb z q
   ·rw[Wh.mp q];exact j
variable(hT:∀i,i<a.n->d5 a (T+1) i=d5 a T i)(hU:∀i,i<b.n->d5 b (U+1) i=d5 b U i)
include hT hU
theorem EM{x y:Nat}(d:x<a.n)(c:y<b.n)(e:AF a b x y):(d5 a T x<a.n/\d5 a T (d5 a T x)=d5 a T x)/\(d5 b U y<b.n/\d5 b U (d5 b U y)=d5 b U y)/\AF a b (d5 a T x) (d5 b U y):=by
 have fa:=tL (a:=a) T;have fb:=tL (a:=b) U;have g:d5 a T x<a.n:=Xg (fa.le x d) d;have f:d5 b U y<b.n:=Xg (fb.le y c) c;refine⟨⟨g,fa.id x d⟩,⟨f,fb.id y c⟩,?_⟩;have i:AF a a (d5 a T x) x:=λn=>E5 hT n _ _ g d (fa.id x d)
 have h:AF b b y (d5 b U y):=λn=>E5 hU n _ _ c f (fb.id y c).symm
 exact i.trans (e.trans h)
theorem tH.prc(P:tH a b T U s t){x y:Nat}(h:x<a.n)(f:y<b.n)(e:AF a b x y):tH a b T U (sH (t8 a (d5 a T)) s x) (sH (t8 b (d5 b U)) t y):=by
 unfold sH t8
 have:∀(ks:List Nat),(∀k∈ks,k<6)->∀{s t:List Nat},tH a b T U s t->tH a b T U ((ks.map λk=>d5 a T (a.g x k)).foldl rG s) ((ks.map λk=>d5 b U (b.g y k)).foldl rG t):=λks=>by
  induction ks with
  | nil=>exact λ_ _ _ P=>P
  | cons k ks ih =>
   intro d s t P;have c:=d k Ws;obtain⟨h1,m,l⟩:=EM hT hU (a.gn x k h c) (b.gn y k f c) (e.go c);exact ih (λj i=>d j (Wt _ i)) (P.add h1 m l)
 exact this _ (λk d=>List.mem_range.mp d) P
theorem Jf{i:Nat}(q:vZ (sH (t8 a (d5 a T))) s i r):∀{t c:List Nat},tH a b T U s t->vZ (sH (t8 b (d5 b U))) t i c->tH a b T U r c:=by
 induction q with
 | done hl =>
  intro t c P d;cases d with
  | done _=>exact P
  | step hx _=>have:=(Wm.mp hx).1;rw[<- P.len] at this;omega
 | step hx _ ih =>
  intro t c P d;cases d with
  | done hl=>have:=(Wm.mp hx).1;rw[P.len] at this;omega
  | step hy h2=>exact ih (P.prc hT hU (P.fa _ (Wi hx)).1 (P.fb _ (Wi hy)).1 (P.at2 _ _ _ hx hy)) h2
end
theorem zk:∀{l m:List Int},l.length=m.length->(∀(i:Nat) (x y:Int),l[i]?=some x->m[i]?=some y->p x=q y)->l.findIdx p=m.findIdx q
 | [],[],_,_=>rfl
 | [],_::_,h,_=>by cases h
 | _::_,[],h,_=>by cases h
 | x::l,y::m,hl,h=>by
  rw[List.findIdx_cons,List.findIdx_cons,h 0 x y rfl rfl,zk (by simpa using hl) λi u v b a=>h (i+1) u v b a]
def Qz{T U:Nat}(P:tH a b T U s t){x y:Nat}(o:x<a.n/\d5 a T x=x)(m:y<b.n/\d5 b U y=y)(e:AF a b x y):BK s x=BK t y:=by
 unfold BK;congr 1;unfold List.idxOf;refine zk (by simp[P.len]) λi u v d c=>?_
 rw[Wg] at d c;cases g:s[i]? with
 | none=>rw[g] at d;cases d
 | some k =>
  cases f:t[i]? with
  | none=>rw[f] at c;cases c
  | some j =>
   rw[g] at d;rw[f] at c;cases d;cases c;by_cases h:k=x
   ·have:=P.mem m e (by rw[g,h])
    rw[f] at this;cases this;rw[h];simp
   ·have p:j≠y:=λz=>h (by
     have:=P.swap.mem o e.symm (by rw[f,z]);rw[g] at this;exact Wq this)
    have n1:((k:Int)==(x:Int))=false:=WQ.mpr (by omega);have l:((j:Int)==(y:Int))=false:=WQ.mpr (by omega);rw[n1,l]
def Oo{T U:Nat}(hT:∀i,i<A.modes.length->d5 (d9 A b) (T+1) i=d5 (d9 A b) T i)(j:∀i,i<B.modes.length->d5 (d9 B a) (U+1) i=d5 (d9 B a) U i)(P:tH (d9 A b) (d9 B a) T U s t){x y:Nat}(h:x<A.modes.length)(g:y<B.modes.length)(e:AF (d9 A b) (d9 B a) x y) :
  vG A b (d5 (d9 A b) T) s x=vG B a (d5 (d9 B a) U) t y:=by
 have f:=e 0;have d:((A.md x).face,(A.md x).stays)=((B.md y).face,(B.md y).stays):=f.1;rw[Prod.mk.injEq] at d;unfold vG;rw[d.1,d.2];congr 4;refine congrArg D.tup (List.map_congr_left λk c=>?_);have c:=List.mem_range.mp c;have n:((A.md x).row k).1=((B.md y).row k).1:=f.2 k c;obtain⟨h1,m,l⟩:=EM hT j ((d9 A b).gn x k h c) ((d9 B a).gn y k g c) (e.go c);rw[n,Qz P h1 m l]
theorem map_two:∀{s t:List Nat},s.length=t.length->(∀(i x y:Nat),s[i]?=some x->t[i]?=some y->f x=g y)->s.map f=t.map g
 | [],[],_,_=>rfl
 | [],_::_,h,_=>by cases h
 | _::_,[],h,_=>by cases h
 | x::s,y::t,hl,h=>by rw[Ww,Ww,h 0 x y rfl rfl,map_two (by simpa using hl) λi u v b a=>h (i+1) u v b a]
def Jj(b:A.Ok)(c:B.Ok)(e:AF (d9 A b) (d9 B c) 0 0):∃ms,aJ [A.d]=some (.tup [.int A.hold,.int A.back,.tup ms])/\aJ [B.d]=some (.tup [.int B.hold,.int B.back,.tup ms]):=by
 obtain⟨T,S,hT,q,u,t,v,r⟩:=gQ b;obtain⟨U,w,j,m,o,n,p,h⟩:=gQ c;have l:d5 (d9 A b) T 0=0:=by have:=(tL (a:=d9 A b) T).le 0 b.some1;omega
 have k:d5 (d9 B c) U 0=0:=by have:=(tL (a:=d9 B c) U).le 0 c.some1;omega
 have s:tH (d9 A b) (d9 B c) T U [0] [0]:=by
  refine⟨rfl,λi x y h1 f=>?_,λx g=>?_,λx g=>?_⟩
  ·rw[Wh.mp (Wi h1),Wh.mp (Wi f)];exact e
  ·rw[Wh.mp g];exact⟨b.some1,l⟩
  ·rw[Wh.mp g];exact⟨c.some1,k⟩
 have P:=Jf hT j q s m;refine⟨S.map (vG A b (d5 (d9 A b) T) S),r,?_⟩;rw[h,<- map_two P.len λi x y h1 f=>Oo hT j P (P.fa x (Wi h1)).1 (P.fb y (Wi f)).1 (P.at2 i x y h1 f)]
theorem Ge(b:A.Ok)(a:B.Ok)(h:MP A B):∀(n:Nat) (u:List Nat),Wd u->Ew (d9 A b) (d9 B a) n (wW A u) (wW B u)
 | 0,u,hu=>by
  have h0:=Al.mp h u hu;refine⟨congrArg Prod.snd h0,λk c=>?_⟩;have h1:=congrArg Prod.fst (Al.mp h (u++[k]) (sJ.mpr ⟨hu,c⟩));unfold GA at h1;rw[List.getLast?_concat,List.dropLast_concat] at h1;exact Wq h1
 | n+1,u,hu=>by
  refine⟨Ge b a h n u hu,λk c=>?_⟩;have:=Ge b a h n (u++[k]) (sJ.mpr ⟨hu,c⟩);rw[tE,tE] at this;exact this
def Ik(b:A.Ok)(a:B.Ok)(h:MP A B):AF (d9 A b) (d9 B a) 0 0:=λn=>Ge b a h n [] λk c=>(by cases c)
def IW(b:A.Ok)(a:B.Ok)(h:MP A B):∃ms,aJ [A.d]=some (.tup [.int A.hold,.int A.back,.tup ms])/\aJ [B.d]=some (.tup [.int B.hold,.int B.back,.tup ms]):=Jj b a (Ik b a h)
def LS(h1:st d ρ=some ρ1)(b:e ρ1=some x)(a:rh st rF e ds ρ=some xs):rh st rF e (d::ds) ρ=some (x::xs):=by simp[rh,h1,b,a]
def M0(h:xs.length+a.length<=1000):n6 (.tup xs) (.tup a)=some (.tup (xs++a)):=by
 have z:1000<=sizeLine:=by decide
 show(if xs.length+a.length<=sizeLine then _ else none)=_;rw[Wc (by omega)]
theorem xA(g:Nat):∀l:List Nat,(l.map λ(m:Nat)=>(m:Int)).idxOf (g:Int)=l.idxOf g
 | []=>rfl
 | a::l=>by
  rw[Ww,List.idxOf_cons,List.idxOf_cons,xA g l];by_cases h:a=g
  ·subst h;simp
  ·have b:¬ (a:Int)=(g:Int):=by omega
   have d:((a:Int)==(g:Int))=false:=WQ.mpr b;have c:(a==g)=false:=WQ.mpr h;rw[d,c]
def vU(l:List Nat):D:=.lst ((l.map λ(m:Nat)=>(m:Int)).map D.int)
def Ra{g:Nat}(h:g∈l)(a:l.length<=8):uE [vU l,.int (g:Int)]=some (.int (l.idxOf g:Nat)):=by
 show(intsOf ((l.map λ(m:Nat)=>(m:Int)).map D.int)).bind _=_;rw[xx,Wa,Wc ⟨List.mem_map.mpr ⟨g,h,rfl⟩,by rw[V9];omega⟩,xA]
noncomputable def Fg(l:List Nat)(m:Md):Md:=⟨m.face,m.stays,m.rows.map λr=>(r.1,l.idxOf r.2)⟩
def ED(b:Bk)(l:List Nat)(h k:Int):Bk:=⟨h,k,l.map λm=>Fg l (b.md m)⟩
def Kg{h k:Int}{j x:Nat}(e:l[j]?=some x):(ED b l h k).md j=Fg l (b.md x):=by
 show(l.map _).getD j default=_;rw[Wn,Wg,e];rfl
def Im{k:Nat}(b:m.rows.length=6)(a:k<6):(Fg l m).row k=((m.row k).1,l.idxOf (m.row k).2):=by
 show(m.rows.map _).getD k default=_;rw[Wn,Wg,zc (by omega)];rfl
def zj(ok:A.Ok)(a:Wd u):wW A u<A.modes.length:=by
 have:=(N_ ok ok u a).1;rw[EQ] at this;exact this
def kW(k:rH):qS (.str k.x)=true:=by rw[qS];cases k<;>decide +kernel
def kU(rs:List (rH×Nat)):rP (rs.map q9)<=1:=by
 induction rs with
 | nil=>simp[rP]
 | cons r rs ih =>
  rw[Ww,rP];have:rZ (q9 r)<=1:=by simp[q9,rZ,rP]
  omega
def ly(rs:List (rH×Nat)):q_ (rs.map q9)=true:=by
 induction rs with
 | nil=>rfl
 | cons r rs ih=>rw[Ww,q_,ih,q9,qS,q_,kW];rfl
def Iv(ms:List Md):rP (ms.map Md.d)<=3:=by
 induction ms with
 | nil=>simp[rP]
 | cons m ms ih =>
  rw[Ww,rP];have:=kU m.rows;have:rZ m.d<=3:=by simp[Md.d,rZ,rP];omega
  omega
def Jc(ms:List Md):q_ (ms.map Md.d)=true:=by
 induction ms with
 | nil=>rfl
 | cons m ms ih =>
  have e:qS m.d=(qS (.str m.face.x)&&(true&&(q_ (m.rows.map q9)&&true))):=by simp only[Md.d,qS,q_]
  rw[Ww,q_,ih,e,iS,ly];rfl
def J7(b:Bk):rZ b.d<=100:=by
 have:=Iv b.modes;simp[Bk.d,rZ,rP];omega
def LA(b:Bk):qS b.d=true:=by
 have e:qS b.d=(true&&(true&&(q_ (b.modes.map Md.d)&&true))):=by simp only[Bk.d,qS,q_]
 rw[e,Jc];rfl
def leB(A:Bk)(h:Nat->Nat)(S:List Nat):Bk:=⟨A.hold,A.back,S.map λx=>⟨(A.md x).face,(A.md x).stays,(List.range 6).map λk=>(((A.md x).row k).1,S.idxOf (h ((A.md x).row k).2))⟩⟩
def QI(b:∀sn x,∃e,d sn x=sn++e){i:Nat}(q:vZ d sn i r):∃e,r=sn++e:=by
 induction q with
 | done _=>exact⟨[],(WT _).symm⟩
 | step hx _ ih =>
  obtain⟨e,f⟩:=ih;obtain⟨g,c⟩:=b _ _;exact⟨g++e,by rw[f,c,List.append_assoc]⟩
def Fy{j x:Nat}(e:S[j]?=some x):(leB A h S).md j=⟨(A.md x).face,(A.md x).stays,(List.range 6).map λk=>(((A.md x).row k).1,S.idxOf (h ((A.md x).row k).2))⟩:=by
 show(S.map _).getD j default=_;rw[Wn,Wg,e];rfl
def y6{j x k:Nat}(e:S[j]?=some x)(a:k<6):((leB A h S).md j).row k=(((A.md x).row k).1,S.idxOf (h ((A.md x).row k).2)):=by
 rw[Fy e];show((List.range 6).map λk=>(((A.md x).row k).1,S.idxOf (h ((A.md x).row k).2))).getD k default=_;rw[Wn,Wg,List.getElem?_range a];rfl
def E9{S:List Nat}{y:Nat}(h:y∈S):S[S.idxOf y]?=some y:=by
 have a:=List.idxOf_lt_length_iff.mpr h;rw[List.getElem?_eq_getElem a,List.getElem_idxOf a]
structure yL (A:Bk) (ok:A.Ok) (T:Nat) (S:List Nat):Prop where
 st:∀i,i<A.modes.length->d5 (d9 A ok) (T+1) i=d5 (d9 A ok) T i
 q:vZ (sH (t8 (d9 A ok) (d5 (d9 A ok) T))) [0] 0 S
 lt:∀x∈S,x<A.modes.length
 cl:∀x∈S,∀k,k<6->d5 (d9 A ok) T ((A.md x).row k).2∈S
 l8:S.length<=8
def yL.zero{T:Nat}(I:yL A ok T S):S[0]?=some 0:=by
 obtain⟨e,a⟩:=QI (Hy _) I.q;rw[a];rfl
def yL.h0{T:Nat}(_:yL A ok T S):d5 (d9 A ok) T 0=0:=by have:=(tL (a:=d9 A ok) T).le 0 ok.some1;omega
def yL.ok{T:Nat}(I:yL A a T S):(leB A (d5 (d9 A a) T) S).Ok where
 hold1:=a.hold1
 hold9:=a.hold9
 back0:=a.back0
 back60:=a.back60
 some1:=by show 1<=(S.map _).length;rw[V9];exact(Wm.mp I.zero).1
 some8:=by show(S.map _).length<=8;rw[V9];exact I.l8
 all:=λm d=>by
  obtain⟨x,b,rfl⟩:=List.mem_map.mp d;refine⟨by show((List.range 6).map _).length=6;simp,λr c=>?_⟩;obtain⟨k,e,rfl⟩:=List.mem_map.mp c;show S.idxOf _<(S.map _).length;rw[V9];exact List.idxOf_lt_length_iff.mpr (I.cl x b k (List.mem_range.mp e))
theorem yL.run{T:Nat}(I:yL A b T S):∀(n:Nat) (u:List Nat),u.length=n->Wd u->S[wW (leB A (d5 (d9 A b) T) S) u]?=some (d5 (d9 A b) T (wW A u))
 | 0,u,hn,_=>by rw[List.length_eq_zero_iff.mp hn];show S[0]?=some (d5 (d9 A b) T 0);rw[I.h0];exact I.zero
 | n+1,u,hn,hu=>by
  rcases snoc_cases u with rfl | ⟨v,k,rfl⟩
  ·cases hn
  ·obtain⟨g,e⟩:=sJ.mp hu
   have d:=I.run n v (by simpa using hn) g;have f:=zj b g;have h:=I.lt _ (Wi d);obtain⟨_,_,c⟩:=xH (a:=d9 A b) I.st h f ((tL (a:=d9 A b) T).id _ f);have c:d5 (d9 A b) T ((A.md (d5 (d9 A b) T (wW A v))).row k).2=d5 (d9 A b) T ((A.md (wW A v)).row k).2:=c k e;rw[tE,tE,y6 d e];have:=E9 (I.cl _ (Wi d) k e);rw[c] at this;rw[<- this];show S[S.idxOf (d5 (d9 A b) T ((A.md (d5 (d9 A b) T (wW A v))).row k).2)]?=_;rw[c]
def yL.nev{T:Nat}(I:yL A b T S):MP A (leB A (d5 (d9 A b) T) S):=Al.mpr λu c=>by
 have e:=I.run _ u rfl c
 have d:∀u,Wd u->uR (leB A (d5 (d9 A b) T) S) (wW (leB A (d5 (d9 A b) T) S) u)=uR A (wW A u):=λu c=>by
  have e:=I.run _ u rfl c;obtain⟨h1,_,_⟩:=xH (a:=d9 A b) I.st (I.lt _ (Wi e)) (zj b c) ((tL (a:=d9 A b) T).id _ (zj b c));unfold uR;rw[Fy e];exact h1
 unfold GA;rw[d u c];rcases snoc_cases u with rfl | ⟨v,j,rfl⟩
 ·rfl
 ·obtain⟨f,i⟩:=sJ.mp c
  have k:=I.run _ v rfl f;obtain⟨_,g,_⟩:=xH (a:=d9 A b) I.st (I.lt _ (Wi k)) (zj b f) ((tL (a:=d9 A b) T).id _ (zj b f));have g:((A.md (d5 (d9 A b) T (wW A v))).row j).1=((A.md (wW A v)).row j).1:=g j i;rw[List.getLast?_concat,List.dropLast_concat];have l:=congrArg Prod.fst (y6 (A:=A) (h:=d5 (d9 A b) T) k i);exact congrArg (λx=>(some x,uR A (wW A (v++[j])))) (g.symm.trans l.symm)
def Qc(S:List Nat)(x:Nat):BK S x=(S.idxOf x:Nat):=by
 unfold BK;rw[xA]
def QQ(ok:A.Ok)(h:Nat->Nat)(S:List Nat)(x:Nat):vG A ok h S x=(⟨(A.md x).face,(A.md x).stays,(List.range 6).map λk=>(((A.md x).row k).1,S.idxOf (h ((A.md x).row k).2))⟩:Md).d:=by
 unfold vG Md.d;rw[List.map_map];congr 4;refine congrArg D.tup (List.map_congr_left λk _=>?_);show D.tup [.str ((A.md x).row k).1.x,.int (BK S (h ((A.md x).row k).2))]=_;rw[Qc];rfl
def nZ(ok:A.Ok):∃(T:Nat) (S:List Nat),yL A ok T S/\aJ [A.d]=some (leB A (d5 (d9 A ok) T) S).d:=by
 obtain⟨T,S,hT,q,b,a,c,e⟩:=gQ ok;refine⟨T,S,⟨hT,q,b,a,c⟩,?_⟩;rw[e];unfold leB Bk.d;rw[List.map_map,List.map_congr_left λx _=>QQ ok _ S x];rfl
def Bl(a:A.Ok)(c:B.Ok)(h:MP A B):∃ms:List Md,aJ [A.d]=some (Bk.d ⟨A.hold,A.back,ms⟩)/\aJ [B.d]=some (Bk.d ⟨B.hold,B.back,ms⟩):=by
 obtain⟨T,S,I,e⟩:=nZ a;obtain⟨ms,b,f⟩:=IW a c h;refine⟨(leB A (d5 (d9 A a) T) S).modes,e,?_⟩;rw[e] at b
 have:D.tup ((leB A (d5 (d9 A a) T) S).modes.map Md.d)=.tup ms:=by
  have h1:=Wq b;unfold Bk.d at h1;injection h1 with h1
  injection h1 with _ h1
  injection h1 with _ h1
  injection h1 with h1 _
 rw[f];unfold Bk.d;rw[this]
def Ux(d:D):Bool:=match d with | .non=>true | _=>false
def Hf(h:Told A B d):xZ d .non=some (Ux d)/\(Ux d=true↔MP A B):=by
 rcases h with ⟨rfl,h⟩ | ⟨u,a,rfl,b,c,_⟩
 ·exact⟨rfl,⟨λ_=>h,λ_=>rfl⟩⟩
 ·exact⟨rfl,⟨λz=>(by cases z),λz=>(z u a b).elim⟩⟩
def L1(h:bZ [A.d,B.d]=some d)(a:Told A B d):ax [A.d,B.d]=some (.bl (Ux d)):=by
 show rm (((((bZ [A.d,B.d]).bind λx=>(some D.non).bind λy=>xZ x y).map D.bl)).map .rt)=_;rw[h];show rm (((xZ d .non).map D.bl).map .rt)=_;rw[(Hf a).1];rfl
def jT(e:A.Ok)(c:B.Ok):∃b:Bool,ax [A.d,B.d]=some (.bl b)/\(b=true↔MP A B):=by
 obtain⟨d,h,a⟩:=nw e c;exact⟨_,L1 h a,(Hf a).2⟩
def U2(h1:f ρ=some x)(c:g ρ=some y)(a:F x y=some b):i9 F f g ρ=some b:=by rw[Di h1 c,a]
def yg(h:c ρ=some false):uG c (i5 f) qZ ρ=some (.nx ρ):=by rw[Uy h];rfl
def Ot(ok:A.Ok){c:Nat}(x:Ky)(e:x∈uB A.modes.length):Gives (.cl Hx c [A.d]) (uN (d9 A ok) id) x:=by
 obtain⟨y,a,rfl⟩:=sw.mp e;refine⟨(Hq ok (λi h=>h) _ e).1,λρ l j=>?_⟩;unfold x6;rw[l,Wa];show((b9 3 ρ).bind λy=>(some []).map (y::·)).bind _=_;rw[j];show(LL Hx).bind _=_;rw[VF,Wa];rw[Wc ⟨rfl,by show(uF _&&true)=true;rw[dP];rfl,US.symm⟩]
 have m:xY 2 Ku ([l6 (k7 y)]++[A.d])=some (.lst ((uN (d9 A ok) id (k7 y)).map l6)):=by
  show d3 bi _ [some (.int (y:Int)),some A.d]=_;have a2:=B7 (b:=A) (x:=y) (f:=b9 1) (g:=b9 0) (ρ:=[some (.int (y:Int)),some A.d]) rfl rfl a;refine(d8 (qM a2 rfl) (eU (tF ok a).six)).trans ?_;rw[Bh,List.map_map,t8,List.map_map];rfl
 rw[m,Wa,Wc (show uF (.lst ((uN (d9 A ok) id (k7 y)).map l6))=true from aT (λk=>by cases k<;>rfl) _)]
def LY{i:Nat}(h:vk[i]?=some p):i<6/\p.length=1:=⟨(Wm.mp h).1,yE h⟩
def M5(ok:A.Ok){L:Nat}(hI:BI (uN (d9 A ok) id) (uB A.modes.length) (k7 0) d [] L):∀(n x:Nat) (w:Str),w.length<=n->(k7 x,D.str w)∈d->∃u,Wd u/\wW A u=x:=λn=>by
 induction n with
 | zero =>
  intro x w a h;rcases hI.tr _ _ h with ⟨h1,_⟩ | ⟨y,v,i,j,_,_,c,rfl⟩
  ·exact⟨[],λk b=>(by cases b),(ux _ _ h1).symm⟩
  ·have:=(LY c).2
   rw[Str.length_append] at a;omega
 | succ n ih =>
  intro x w a h;rcases hI.tr _ _ h with ⟨h1,_⟩ | ⟨y,v,i,j,h1,g,c,rfl⟩
  ·exact⟨[],λk b=>(by cases b),(ux _ _ h1).symm⟩
  ·obtain⟨f,m⟩:=LY c
   rw[Str.length_append] at a;obtain⟨z,hz,rfl⟩:=sw.mp (hI.val _ h1).2.1;obtain⟨u,l,e⟩:=ih z v (by omega) h1;refine⟨u++[i],sJ.mpr ⟨l,f⟩,?_⟩;rw[Bh,Wg,t8,Wg,List.getElem?_range f] at g;rw[tE,e];exact ux _ _ (Wq g)
def jI(ok:A.Ok):∃rs:List Nat,cD [A.d]=some (.tup (rs.map λx:Nat=>.int (x:Int)))/\rs.Nodup/\rs.Pairwise (·<=·)/\∀x,x∈rs↔∃u,Wd u/\wW A u=x:=by
 have n1:=ok.some1;have n8:=ok.some8;obtain⟨a,L,hk,hI,T,_⟩:=Ao (go:=uN (d9 A ok) id) (bx:=uB A.modes.length) (s:=k7 0) (lf:=true) (λx o=>by obtain⟨y,_,rfl⟩:=sw.mp o;rfl) (by simp[uB];omega) (sw.mpr ⟨0,n1,rfl⟩) (Hq ok λi hi=>hi)
 have N:∀e∈i8 a,∃y,y<A.modes.length/\e=k7 y:=λe he=>by
  obtain⟨d,hd⟩:=vA he;exact sw.mp (hI.val _ hd).2.1
 obtain⟨S,E,hSn⟩:=Bd _ N
 have Q:S.Nodup:=by
  have:=hI.nd;rw[E] at this;exact(List.pairwise_map.mp this).imp λh z=>h (congrArg k7 z)
 have W:S.length<=8:=by
  have:=hI.len;have e:(i8 a).length=S.length:=by rw[E,V9]
  have X:(i8 a).length=a.length:=by simp[i8]
  have e3:(uB A.modes.length).length=A.modes.length:=by simp[uB]
  omega
 have B:∀x,x∈S->∃w,(k7 x,D.str w)∈a:=λx o=>by
  have H:k7 x∈i8 a:=by rw[E];exact List.mem_map.mpr ⟨x,o,rfl⟩
  obtain⟨d,hd⟩:=vA H;obtain⟨_,_,w,b,_⟩:=hI.val _ hd;have J:d=.str w:=b;subst J;exact⟨w,hd⟩
 have mem:∀x w,(k7 x,D.str w)∈a->x∈S:=λx w h=>by
  have:k7 x∈i8 a:=List.mem_map.mpr ⟨_,h,rfl⟩;rw[E] at this;obtain⟨y,G,e⟩:=List.mem_map.mp this;exact ux _ _ e ▸ G
 have C:∀x,x∈S↔∃u,Wd u/\wW A u=x:=λx=>by
  constructor
  ·intro o
   obtain⟨w,b⟩:=B x o;exact M5 ok hI _ x w (Wl _) b
  ·rintro⟨u,M,rfl⟩
   have:∀(n:Nat) (u:List Nat),u.length=n->Wd u->wW A u∈S:=λn=>by
    induction n with
    | zero=>intro u F _;rw[List.length_eq_zero_iff.mp F];exact mem 0 _ hI.st
    | succ n ih =>
     intro u F M;rcases snoc_cases u with rfl | ⟨v,k,rfl⟩
     ·cases F
     ·obtain⟨hv,O⟩:=sJ.mp M
      obtain⟨w,b⟩:=B _ (ih v (by simpa using F) hv)
      obtain⟨v',K,_⟩:=hI.cl _ _ b (by simp) (k7 ((A.md (wW A v)).row k).2) (by
       rw[Bh];exact List.mem_map.mpr ⟨_,List.mem_map.mpr ⟨k,List.mem_range.mpr O,rfl⟩,rfl⟩)
      rw[tE];exact mem _ _ K
   exact this _ u rfl M
 have t:a ≠ []:=λz=>by have:=hI.st;rw[z] at this;cases this
 have hd:sQ a=.dct (a.map λp=>k1 p.1) (a.map λp=>p.2):=by
  match a,t,hI with
  | (.inl q,d)::a,_,_=>rfl
  | (.inr q,d)::a,_,hI =>
   obtain⟨y,_,e⟩:=sw.mp (hI.val _ Ws).2.1;cases e
 have ff:∀c,ag [l6 (k7 0),.cl Hx c [A.d]]=some (sQ a):=λc=>by
  show rm (xT ae 4 0 1 (.str (oS "")) [some (l6 (k7 0)),some (.cl Hx c [A.d]),none,none])=_;exact(congrArg rm (Az (g:=ae) (n:=4) (i:=0) (j:=1) (e:=.str (oS "")) (c:=.cl Hx c [A.d]) (ρ:=[some (l6 (k7 0)),some (.cl Hx c [A.d]),none,none]) (s:=l6 (k7 0)) (k:=k7 0) (kv:=a) rfl rfl rfl rfl t (hk _ λx o=>Ot ok x o))).trans rfl
 have Z:EB (sQ a)=true:=by
  rw[hd];show rW (a.map λp=>p.2)=true
  have:∀l:KI,(∀p∈l,∃w,p.2=D.str w)->rW (l.map λp=>p.2)=true:=λl=>by
   induction l with
   | nil=>intro _;rfl
   | cons p l ih =>
    intro f;obtain⟨w,b⟩:=f p Ws;show(uF p.2&&_)=true;rw[b,ih λq hq=>f q (Wt _ hq)];rfl
  exact this a λp f=>let ⟨_,_,w,b,_⟩:=hI.val p f;⟨w,b⟩
 have P:vj ag Hx (b8 (b9 1) d4) (wo [0]) [some A.d,some (.int 0)]=some (sQ a):=
  A8 (as:=[l6 (k7 0)]) (caps:=[A.d]) rfl rfl (by show(uF _&&true)=true;rw[dP];rfl) Z ff
 have I:bP [A.d,.int 0]=some (sQ a):=tZ P
 have ek:(a.map λp=>k1 p.1)=S.map λx:Nat=>(Sum.inl (x:Int):Int ⊕ Str):=by
  have:(a.map λp=>k1 p.1)=(i8 a).map k1:=by unfold i8;rw[List.map_map];rfl
  rw[this,E,List.map_map];rfl
 have Y:Ds [sQ a]=some (.lst ((sG (S.map λx:Nat=>(x:Int))).map .int)):=by
  rw[hd];show(xR (a.map λp=>k1 p.1)).bind _=_;rw[ek,DV,Wa,Wc (by rw[V9];omega)]
 have f:=su (S.map λx:Nat=>(x:Int));have U:=uK (S.map λx:Nat=>(x:Int));generalize sG (S.map λx:Nat=>(x:Int))=zs at Y f U
 have hz:∀z∈zs,0<=z:=λz hz=>by
  obtain⟨x,_,rfl⟩:=List.mem_map.mp (f.mem_iff.mp hz);omega
 have back:∀q:List Int,(∀x∈q,0<=x)->(q.map Int.toNat).map (λ(m:Nat)=>(m:Int))=q:=λq=>by
  induction q with
  | nil=>exact λ_=>rfl
  | cons x q ih =>
   intro h;rw[Ww,Ww,ih λy G=>h y (.tail _ G)];have:=h x (.head _);congr 1;omega
 have r:(zs.map Int.toNat).Perm S:=by
  have:=f.map Int.toNat;rw[List.map_map] at this;have e:(Int.toNat ∘ λx:Nat=>(x:Int))=id:=funext λx=>by simp
  rw[e,List.map_id] at this;exact this
 refine⟨zs.map Int.toNat,?_,r.nodup_iff.mpr Q,?_,λx=>by rw[r.mem_iff];exact C x⟩
 ·have X:(zs.map Int.toNat).map (λx:Nat=>D.int (x:Int))=zs.map D.int:=by
   have:=congrArg (List.map D.int) (back zs hz);rw[List.map_map] at this;exact this
  rw[X];exact tZ (d8 (qM (d8 (qM (d8 (qM rfl (qM rfl rfl)) I) rfl) Y) rfl) rfl)
 ·rw[List.pairwise_map]
  exact U.imp_of_mem λha hb hab=>by have:=hz _ ha;omega
def Nj{a:Type}[DecidableEq a]{x e:a}{sn:List a}(h:x∈rG sn e):x∈sn\/x=e:=by
 unfold rG at h;split at h
 ·exact .inl h
 ·rcases WY.mp h with z | z
  ·exact .inl z
  ·exact .inr (Wh.mp z)
theorem ET[DecidableEq a]:∀{l sn:List a},x∈l.foldl rG sn->x∈sn\/x∈l
 | [],_,h=>.inl h
 | e::l,sn,h=>by
  rcases ET (l:=l) h with z | z
  ·rcases Nj z with y | y
   ·exact .inl y
   ·exact .inr (y ▸ .head _)
  ·exact .inr (.tail _ z)
def Re{c:Type}[DecidableEq c]{e:c}{sn:List c}(h:sn.Nodup):(rG sn e).Nodup:=by
 unfold rG;split
 ·exact h
 ·rename_i q
  rw[List.nodup_append];exact⟨h,by simp,λa f b d z=>q (by rw[<- Wh.mp d,<- z];exact f)⟩
theorem Ij[DecidableEq a]:∀{l sn:List a},sn.Nodup->(l.foldl rG sn).Nodup
 | [],_,h=>h
 | e::l,sn,h=>Ij (l:=l) (Re h)
def KM(P:List a->Prop)(c:∀sn x,x∈sn->P sn->P (b sn x)){i:Nat}(q:vZ b sn i r):P sn->P r:=by
 induction q with
 | done _=>exact id
 | step hx _ ih=>exact λh=>ih (c _ _ (Wi hx) h)
def yL.nd{A:Bk}{ok:A.Ok}{T:Nat}{S:List Nat}(I:yL A ok T S):S.Nodup:=KM List.Nodup (λ_ _ _ h=>Ij h) I.q (by simp)
def yL.word{A:Bk}{ok:A.Ok}{T:Nat}{S:List Nat}(I:yL A ok T S):∀x∈S,∃u,Wd u/\d5 (d9 A ok) T (wW A u)=x:=by
 have K_:=(tL (a:=d9 A ok) T).id;refine KM (λsn=>∀x∈sn,∃u,Wd u/\d5 (d9 A ok) T (wW A u)=x) (λsn x f h y i=>?_) I.q λx f=>?_
 ·rcases ET i with z | z
  ·exact h y z
  ·obtain⟨k,b,rfl⟩:=List.mem_map.mp z
   have b:=List.mem_range.mp b;obtain⟨u,g,e⟩:=h x f;have c:=zj ok g;have d:x<A.modes.length:=by rw[<- e];exact Xg ((tL (a:=d9 A ok) T).le _ c) c
   obtain⟨_,_,j⟩:=xH (a:=d9 A ok) I.st c d (by rw[<- e];exact(K_ _ c).symm);refine⟨u++[k],sJ.mpr ⟨g,b⟩,?_⟩;rw[tE];exact j k b
 ·rw[Wh.mp f]
  exact⟨[],λk b=>(by cases b),I.h0⟩
def LR{S:List Nat}(h:S.Nodup){i j x:Nat}(h1:S[i]?=some x)(f:S[j]?=some x):i=j:=by
 obtain⟨a,b⟩:=Wm.mp h1;obtain⟨c,d⟩:=Wm.mp f;have e:=List.pairwise_iff_getElem.mp h;by_cases z:i<j
 ·exact Wz (b.trans d.symm) (e i j a c z)
 ·by_cases y:j<i
  ·exact Wz (d.trans b.symm) (e j i c a y)
  ·omega
def yL.all{A:Bk}{ok:A.Ok}{T:Nat}{S:List Nat}(I:yL A ok T S){j:Nat}(b:j<S.length):∃u,Wd u/\wW (leB A (d5 (d9 A ok) T) S) u=j/\d5 (d9 A ok) T (wW A u)=S[j]:=by
 obtain⟨u,a,e⟩:=I.word S[j] (List.getElem_mem b);have:=I.run _ u rfl a;rw[e] at this;exact⟨u,a,LR I.nd this (List.getElem?_eq_getElem b),e⟩
def Dw{n:Nat}(h1:rs.Nodup)(d:rs.Pairwise (·<=·))(h:∀x,x∈rs↔x<n):rs=List.range n:=by
 have c:rs.Perm (List.range n):=(List.perm_ext_iff_of_nodup h1 List.nodup_range).mpr λx=>by rw[h,List.mem_range]
 exact List.Perm.eq_of_pairwise (λ_ _ _ _ a b=>Nat.le_antisymm a b) d (List.pairwise_lt_range.imp Nat.le_of_lt) c
def yL.reach{A:Bk}{ok:A.Ok}{T:Nat}{S:List Nat}(I:yL A ok T S):∃rs:List Nat,cD [A.d]=some (.tup (rs.map λx:Nat=>.int (x:Int)))/\S.length<=rs.length/\cD [(leB A (d5 (d9 A ok) T) S).d]=some (.tup ((List.range S.length).map λx:Nat=>.int (x:Int))):=by
 obtain⟨rs,k,_,_,h1⟩:=jI ok;obtain⟨f,j,h,g,i⟩:=jI I.ok
 have c:f=List.range S.length:=Dw h g λx=>by
  rw[i];constructor
  ·rintro⟨u,a,rfl⟩
   exact(Wm.mp (I.run _ u rfl a)).1
  ·intro b
   obtain⟨u,a,e,_⟩:=I.all b;exact⟨u,a,e⟩
 refine⟨rs,k,?_,c ▸ j⟩
 have:S.length<=(rs.map (d5 (d9 A ok) T)).length:=List.Nodup.length_le_of_subset I.nd λx b=>by
  obtain⟨u,a,e⟩:=I.word x b;exact List.mem_map.mpr ⟨_,(h1 _).mpr ⟨u,a,rfl⟩,e⟩
 rw[V9] at this;exact this
structure TU (n:Nat) (l:List Nat):Prop where
 len:l.length=n
 lt:∀m∈l,m<n
 all:∀m,m<n->m∈l
def Ko(ok:b.Ok)(p:TU b.modes.length l):(ED b l b.hold b.back).Ok where
 hold1:=ok.hold1
 hold9:=ok.hold9
 back0:=ok.back0
 back60:=ok.back60
 some1:=by show 1<=(l.map _).length;rw[V9,p.len];exact ok.some1
 some8:=by show(l.map _).length<=8;rw[V9,p.len];exact ok.some8
 all:=λm e=>by
  obtain⟨k,f,rfl⟩:=List.mem_map.mp e;have q:=tF ok (p.lt k f);refine⟨by show(List.map _ _).length=6;rw[V9];exact q.six,λr d=>?_⟩;obtain⟨c,a,rfl⟩:=List.mem_map.mp d;show l.idxOf c.2<(l.map _).length;rw[V9];exact List.idxOf_lt_length_iff.mpr (p.all _ (q.nx c a))
theorem DE(ok:b.Ok)(p:TU b.modes.length l)(c:(ED b l b.hold b.back).Ok):∀(n j x:Nat),l[j]?=some x->Ew (d9 (ED b l b.hold b.back) c) (d9 b ok) n j x
 | 0,j,x,h=>by
  have e:=Kg (b:=b) (h:=b.hold) (k:=b.back) h;refine⟨by show((_:Md).face,_)=_;rw[e];rfl,λk a=>?_⟩;show(Md.row ((ED b l b.hold b.back).md j) k).1=_;rw[e,Im (tF ok (p.lt x (Wi h))).six a];rfl
 | n+1,j,x,h=>by
  refine⟨DE ok p c n j x h,λk a=>DE ok p c n _ _ ?_⟩;have d:=tF ok (p.lt x (Wi h));show l[(Md.row ((ED b l b.hold b.back).md j) k).2]?=some ((b.md x).row k).2;rw[Kg h,Im d.six a];exact E9 (p.all _ (d.nx _ (Wi (zc (by rw[d.six];exact a)))))
def yL.part{A:Bk}{ok:A.Ok}{T:Nat}{S:List Nat}(I:yL A ok T S){i j:Nat}(g:i<S.length)(f:j<S.length)(h:AF (d9 _ I.ok) (d9 _ I.ok) i j):i=j:=by
 have m:∀(n:Nat) (i x:Nat),S[i]?=some x->Ew (d9 _ I.ok) (d9 A ok) n i x:=λn=>by
  induction n with
  | zero =>
   intro i x b;refine⟨by show((_:Md).face,_)=_;rw[Fy b];rfl,λk c=>?_⟩;show(Md.row ((leB A (d5 (d9 A ok) T) S).md i) k).1=_;rw[y6 b c];rfl
  | succ n ih =>
   intro i x b;refine⟨ih i x b,λk c=>?_⟩;have l:=Wi b;have d:=(d9 A ok).gn x k (I.lt x l) c;have w:=Xg ((tL (a:=d9 A ok) T).le _ d) d;have B:Ew (d9 A ok) (d9 A ok) n (d5 (d9 A ok) T ((A.md x).row k).2) ((A.md x).row k).2:=E5 I.st n _ _ w d ((tL (a:=d9 A ok) T).id _ d);refine(ih _ _ ?_).trans B;show S[(Md.row ((leB A (d5 (d9 A ok) T) S).md i) k).2]?=_;rw[y6 b c];exact E9 (I.cl x l k c)
 have b:=List.getElem?_eq_getElem g;have o:=List.getElem?_eq_getElem f;have e:Ew (d9 A ok) (d9 A ok) T S[i] S[j]:=((m T _ _ b).symm.trans (h T)).trans (m T _ _ o);have r:=Hw T _ _ (I.lt _ (List.getElem_mem g)) (I.lt _ (List.getElem_mem f)) e;obtain⟨u,t,_,z⟩:=I.all g;obtain⟨v,s,_,y⟩:=I.all f;have q:=(tL (a:=d9 A ok) T).id _ (zj ok t);have p:=(tL (a:=d9 A ok) T).id _ (zj ok s);rw[z] at q;rw[y] at p;rw[q,p] at r;exact LR I.nd b (by rw[o,r])
def yH(n i:Nat):List Nat:=i::(List.range n).filter λx=>!(x==i)
def xX{n i:Nat}(a:i<n):TU n (yH n i):=by
 have mem:∀m,m∈yH n i↔m<n:=λm=>by
  unfold yH;rw[Wo,List.mem_filter,List.mem_range];by_cases h:m=i
  ·subst h;simp[a]
  ·simp[h]
 have nd:(yH n i).Nodup:=List.nodup_cons.mpr ⟨λh=>by have:=(List.mem_filter.mp h).2;simp at this,List.nodup_range.filter _⟩;refine⟨?_,λm h=>(mem m).mp h,λm h=>(mem m).mpr h⟩;have:=((List.perm_ext_iff_of_nodup nd List.nodup_range).mpr λx=>by rw[mem,List.mem_range]).length_eq;rw[this,List.length_range]
def SQ:R->V3 Out:=(i4 (i7 (d6 e8 (d6 e8 (b9 0) (kI 2)) (b9 4)) (zL [(setAt 5),(setAt 6),(setAt 7)]))
  (i4 (i7 (d3 tu (b8 (uh 2 (qU (b9 7)) (zL [(setAt 0),(setAt 1)]) rF (l9 (b8 (b9 0) (b8 (d3 uE (b8 (b9 4) (b8 (b9 1) d4))) d4)))) d4)) (setAt 8))
  (i7 (d6 n6 (b9 3) (l9 (b8 (l9 (b8 (b9 5) (b8 (b9 6) (b8 (b9 8) d4)))) d4))) (setAt 3))))
def RI{k:Nat}(h1:it ρ=some ds)(b:ds.length<=sizeLine)(a:rh st c e ds (List.replicate k none++ρ)=some xs):uh k it st c e ρ=some (.lst xs):=by
 unfold uh;rw[h1,Wa,Wc b,a];rfl
theorem jV(a:l.length<=8):∀rows:List (rH×Nat),(∀x∈rows,x.2∈l) ->
  rh (zL [(setAt 0),(setAt 1)]) rF (l9 (b8 (b9 0) (b8 (d3 uE (b8 (b9 4) (b8 (b9 1) d4))) d4))) (rows.map q9) (none::none::c::a1::some (vU l)::r)=some ((rows.map λr=>(r.1,l.idxOf r.2)).map q9)
 | [],_=>rfl
 | x::rows,h=>LS rfl (tupS (qM rfl (qM (d8 (qM rfl (qM rfl rfl)) (Ra (h x (.head _)) a)) rfl))) (jV a rows λy b=>h y (.tail _ b))
def wc(b:Bk)(l pre:List Nat):LD:=pre.map λm=>(Fg l (b.md m)).d
theorem E3(ok:b.Ok)(p:TU b.modes.length l):∀(ms pre:List Nat) (o4 o5 o6 c a:OD),(∀m∈ms,m<b.modes.length)->pre.length+ms.length<=8 ->
  ∃r o n k j,xE (setAt 4) SQ ((ms.map λ(m:Nat)=>(m:Int)).map D.int) [some b.d,a1,some (vU l),some (.tup (wc b l pre)),o4,o5,o6,c,a] =
   some (.nx [some b.d,a1,some (vU l),some (.tup (wc b l (pre++ms))),r,o,n,k,j])
 | [],pre,o4,o5,o6,c,a,_,_=>⟨o4,o5,o6,c,a,by rw[WT];rfl⟩
 | m::ms,pre,o4,o5,o6,c,a,h,hl=>by
  rw[WH] at hl;have w:=h m (.head _);have i:=tF ok w;have z:l.length<=8:=by rw[p.len];exact ok.some8
  have e:wc b l (pre++[m])=wc b l pre++[(Fg l (b.md m)).d]:=by unfold wc;rw[Xb];rfl
  have u:∀x∈(b.md m).rows,x.2∈l:=λx s=>p.all _ (i.nx x s)
  have v:=B7 (b:=b) (x:=m) (f:=b9 0) (g:=b9 4) (ρ:=[some b.d,a1,some (vU l),some (.tup (wc b l pre)),some (.int (m:Int)),o5,o6,c,a]) rfl rfl w;have q:uh 2 (qU (b9 7)) (zL [(setAt 0),(setAt 1)]) rF (l9 (b8 (b9 0) (b8 (d3 uE (b8 (b9 4) (b8 (b9 1) d4))) d4))) [some b.d,a1,some (vU l),some (.tup (wc b l pre)),some (.int (m:Int)),some (.str (b.md m).face.x),some (.bl (b.md m).stays),some (.tup ((b.md m).rows.map q9)),a]=some (.lst ((Fg l (b.md m)).rows.map q9)):=RI rfl (by rw[V9,i.six];decide) (jV z _ u)
  have t:SQ [some b.d,a1,some (vU l),some (.tup (wc b l pre)),some (.int (m:Int)),o5,o6,c,a]=some (.nx [some b.d,a1,some (vU l),some (.tup (wc b l (pre++[m]))),some (.int (m:Int)),some (.str (b.md m).face.x),some (.bl (b.md m).stays),some (.tup ((b.md m).rows.map q9)),some (.tup ((Fg l (b.md m)).rows.map q9))]):=by
   rw[e];refine(i6 (qO v rfl)).trans ((i6 (qO (d8 (F:=tu) (qM q rfl) rfl) rfl)).trans (qO (i3 rfl (tupS (qM (tupS (qM rfl (qM rfl (qM rfl rfl)))) rfl)) (M0 ?_)) rfl));unfold wc;rw[V9];show _+1<=1000;omega
  obtain⟨r,o,n,k,j,y⟩:=E3 ok p (a1:=a1) ms (pre++[m]) (some (.int (m:Int))) (some (.str (b.md m).face.x)) (some (.bl (b.md m).stays)) (some (.tup ((b.md m).rows.map q9))) (some (.tup ((Fg l (b.md m)).rows.map q9))) (λx s=>h x (.tail _ s)) (by simp;omega);refine⟨r,o,n,k,j,?_⟩;rw[Ww,Ww,Af rfl t,y,List.append_assoc];rfl
def nX(ok:b.Ok){i:Nat}(k:i<b.modes.length):al [b.d,.int (i:Int)]=some (ED b (yH b.modes.length i) b.hold b.back).d:=by
 have g:=ok.some8;have e:=xX k;have j:d3 rY (b8 (d6 e8 (b9 0) (kI 2)) d4) [some b.d,some (.int (i:Int)),none,none,none,none,none,none,none]=some (.int (b.modes.length:Int)):=d8 (qM (i3 rfl rfl rfl) rfl) (by show some (D.int ((b.modes.map Md.d).length:Int))=_;rw[V9])
 have l:rh (setAt 0) (i9 EE (b9 0) (b9 2)) (b9 0) ((List.range b.modes.length).map λx:Nat=>D.int (x:Int)) [none,some b.d,some (.int (i:Int)),none,none,none,none,none,none,none]=some (((List.range b.modes.length).filter λx=>!(x==i)).map λx:Nat=>D.int (x:Int)):=by
  generalize List.range b.modes.length=xs
  induction xs with
  | nil=>rfl
  | cons x xs ih =>
   have c:i9 EE (b9 0) (b9 2) [some (.int (x:Int)),some b.d,some (.int (i:Int)),none,none,none,none,none,none,none]=some (!(x==i)):=by
    refine U2 rfl rfl ?_;show some (!((x:Int)==(i:Int)))=_;congr 2;by_cases z:x=i
    ·subst z;simp
    ·rw[WQ.mpr z,WQ.mpr (by omega)]
   rw[Ww,List.filter_cons];show(some [some (D.int (x:Int)),some b.d,some (.int (i:Int)),none,none,none,none,none,none,none]).bind _=_;rw[Wa,c,Wa];cases z:!(x==i) with
   | true=>rw[Wc rfl,Wc rfl,ih];rfl
   | false=>rw[Wu We,Wu We,ih];rfl
 have f:rj (d3 rY (b8 (d6 e8 (b9 0) (kI 2)) d4)) [some b.d,some (.int (i:Int)),none,none,none,none,none,none,none]=some ((List.range b.modes.length).map λx:Nat=>D.int (x:Int)):=by
  rw[inR j (by omega)];unfold sa;rw[show((b.modes.length:Int) - 0).toNat=b.modes.length by omega];congr 1;exact List.map_congr_left λx _=>by rw[Xu]
 have h:uh 1 (rj (d3 rY (b8 (d6 e8 (b9 0) (kI 2)) d4))) (setAt 0) (i9 EE (b9 0) (b9 2)) (b9 0) [some b.d,some (.int (i:Int)),none,none,none,none,none,none,none]=some (.lst (((List.range b.modes.length).filter λx=>!(x==i)).map λx:Nat=>D.int (x:Int))):=RI f (by rw[V9,List.length_range];exact IV (by omega)) l
 have m:D.lst ([.int (i:Int)]++((List.range b.modes.length).filter λx=>!(x==i)).map λx:Nat=>D.int (x:Int))=vU (yH b.modes.length i):=by
  unfold vU yH;rw[Ww,Ww,List.map_map];rfl
 have s:((List.range b.modes.length).filter λx=>!(x==i)).length<=8:=WD (List.length_filter_le _ _) (by rw[List.length_range];exact g)
 have s1:Dc 4 (i7 (d6 n6 (x3 (b8 (b9 1) d4)) (uh 1 (rj (d3 rY (b8 (d6 e8 (b9 0) (kI 2)) d4))) (setAt 0) (i9 EE (b9 0) (b9 2)) (b9 0))) (setAt 2)) [some b.d,some (.int (i:Int)),none,none,none,none,none,none,none]=some (.nx [some b.d,some (.int (i:Int)),some (vU (yH b.modes.length i)),none,none,none,none,none,none]):=by
  have a:i7 (d6 n6 (x3 (b8 (b9 1) d4)) (uh 1 (rj (d3 rY (b8 (d6 e8 (b9 0) (kI 2)) d4))) (setAt 0) (i9 EE (b9 0) (b9 2)) (b9 0))) (setAt 2) [some b.d,some (.int (i:Int)),none,none,none,none,none,none,none]=some (.nx [some b.d,some (.int (i:Int)),some (vU (yH b.modes.length i)),none,none,none,none,none,none]):=by
   refine qO (i3 (x:=.lst [.int (i:Int)]) rfl h ?_) rfl;show(if _+_<=sizeLine then some (D.lst ([.int (i:Int)]++_)) else none)=_;rw[Wc (by rw[V9];exact IV (by show 1+_<=2000;omega)),m]
  show(if 4<9 then (i7 _ _ _).bind (IG 4) else none)=_;rw[Wc (by decide)];exact(congrArg (λz:V3 Out=>z.bind (IG 4)) a).trans rfl
 obtain⟨r,q,p,o,n,t⟩:=E3 ok e (a1:=some (.int (i:Int))) (yH b.modes.length i) [] none none none none none e.lt (by rw[e.len];simpa using g);rw[Xr] at t;refine k6 ((i6 s1).trans ((i6 (qO (d:=.tup []) rfl rfl)).trans ((i6 (wG rfl t)).trans ?_)))
 have hd:D.tup (wc b (yH b.modes.length i) (yH b.modes.length i))=.tup ((ED b (yH b.modes.length i) b.hold b.back).modes.map Md.d):=by
  show _=D.tup ((List.map _ _).map Md.d);rw[List.map_map];rfl
 refine(retS (tupS (qM (i3 rfl rfl rfl) (qM (i3 rfl rfl rfl) (qM rfl rfl))))).trans ?_;rw[hd];rfl
def yL.parted{A:Bk}{ok:A.Ok}{T:Nat}{S:List Nat}(I:yL A ok T S){i j:Nat}(o:i<S.length)(m:j<S.length)(k:i≠j):∃q p,al [(leB A (d5 (d9 A ok) T) S).d,.int (i:Int)]=some q/\al [(leB A (d5 (d9 A ok) T) S).d,.int (j:Int)]=some p/\ax [q,p]=some (.bl false):=by
 have l:(leB A (d5 (d9 A ok) T) S).modes.length=S.length:=V9 _;have c:i<(leB A (d5 (d9 A ok) T) S).modes.length:=by rw[l];exact o
 have a:j<(leB A (d5 (d9 A ok) T) S).modes.length:=by rw[l];exact m
 have g:=Ko I.ok (xX c);have f:=Ko I.ok (xX a);obtain⟨b,e,h⟩:=jT g f;refine⟨_,_,nX I.ok c,nX I.ok a,?_⟩;cases b with
 | false=>exact e
 | true =>
  have E:=Ik g f (h.mp rfl);exact Wz (I.part o m λn=>((DE I.ok (xX c) g n 0 i rfl).symm.trans (E n)).trans (DE I.ok (xX a) f n 0 j rfl)) k
def wj{t:Int}(a:s.held=none):behind b s t={counted b s t with mode:=0}:=by
 refine zh ?_;show sD s.held t=none;rw[a];rfl
def DI{t:Int}(a:s.held=none):qT (behind b s t)=if s.aon then some ((s.sec - (s.clock+t)%86400 - 1)%86400+1) else none:=by
 rw[wj a];rfl
def DT{t:Int}(c:s.held=none)(a:0<=t):qR (behind b s t)=if s.cr=true/\t<s.cl then some (s.cl - t) else none:=by
 rw[wj c];have e:qR {counted b s t with mode:=0}=if runsOn s t then some (rD s t) else none:=rfl
 rw[e,u_ s a];by_cases h:t<s.cl
 ·rw[yX s h,WP h]
  cases s.cr<;>simp[h]
 ·rw[Wx h]
  simp[h]
theorem fY:∀(l b:List Int),l.Pairwise (·<·)->b.Pairwise (·<·)->(∀x,x∈l↔x∈b)->l=b
 | [],[],_,_,_=>rfl
 | [],y::r,_,_,h=>Wz ((h y).mpr (.head _)) (by simp)
 | x::l,[],_,_,h=>Wz ((h x).mp (.head _)) (by simp)
 | x::l,y::r,h1,h2,h=>by
  have a1:∀z∈l,x<z:=λz hz=>List.rel_of_pairwise_cons h1 hz
  have a2:∀z∈r,y<z:=λz hz=>List.rel_of_pairwise_cons h2 hz
  have e:x=y:=by
   rcases Wo.mp ((h x).mp (.head _)) with q | q
   ·exact q
   ·rcases Wo.mp ((h y).mpr (.head _)) with a | a
    ·exact a.symm
    ·have:=a1 _ a;have:=a2 _ q;omega
  subst e;rw[fY l r h1.of_cons h2.of_cons λz=>⟨λhz=>?_,λhz=>?_⟩]
  ·rcases Wo.mp ((h z).mp (.tail _ hz)) with q | q
   ·have:=a1 z hz;omega
   ·exact q
  ·rcases Wo.mp ((h z).mpr (.tail _ hz)) with q | q
   ·have:=a2 z hz;omega
   ·exact q
def mn(a:List Int)(k x:Int):x∈tJ a k↔x∈a\/x=k:=by
 unfold tJ;split
 ·rename_i h
  obtain⟨y,b,e⟩:=List.any_eq_true.mp h;have:y=k:=by simpa using e
  subst this;exact⟨.inl,λq=>q.elim id λq=>q ▸ b⟩
 ·simp
theorem ii(x:Int):∀(l a:List Int),x∈l.foldl tJ a↔x∈a\/x∈l
 | [],a=>by simp
 | k::l,a=>by rw[List.foldl_cons,ii x l,mn];simp[or_assoc]
def GB(k:Int)(h:c.Nodup):(tJ c k).Nodup:=by
 unfold tJ;split
 ·exact h
 ·rename_i q
  rw[List.nodup_append];refine⟨h,by simp,λa f b d e=>q (List.any_eq_true.mpr ⟨a,f,?_⟩)⟩;rw[e,Wh.mp d];simp
theorem Ba:∀(l a:List Int),a.Nodup->(l.foldl tJ a).Nodup
 | [],_,h=>h
 | k::l,a,h=>Ba l _ (GB k h)
def sd(l:List Int):List Int:=sG (zM l)
def pJ(l:List Int)(x:Int):x∈sd l↔x∈l:=by
 unfold sd zM;rw[(su _).mem_iff,ii];simp
def La(l:List Int):(sd l).Pairwise (·<·):=by
 have h1:(sd l).Pairwise (·<=·):=uK _;have c:(sd l).Nodup:=(su _).nodup_iff.mpr (Ba l [] List.nodup_nil);exact(h1.and c).imp λ⟨a,b⟩=>by omega
def nu(n a x:Int):x∈Ic n (some a)↔a<=x/\x<=n/\(x - a)%86400=0:=by
 show x∈(List.range (sr a (n+1) 86400)).map _↔_;rw[List.mem_map];constructor
 ·rintro⟨k,b,rfl⟩
  rw[List.mem_range] at b;unfold sr at b;split at b<;>omega
 ·rintro⟨h1,d,c⟩
  refine⟨((x - a) / 86400).toNat,?_,by omega⟩;rw[List.mem_range];unfold sr;split<;>omega
def Rg(s:WS)(x:Int):Prop:=(∃a,qT s=some a/\a<=x/\(x - a)%86400=0)\/qR s=some x
def bA(s:WS)(n x:Int):x∈tK s n↔Rg s x/\x<=n:=by
 show x∈sd _↔_;rw[pJ,WY];unfold Rg
 have g:x∈IM n (qR s)↔qR s=some x/\x<=n:=by
  cases i:qR s with
  | none=>simp[IM]
  | some c =>
   unfold IM;dsimp only;by_cases q:c<=n
   ·rw[Wc q];simp;constructor
    ·rintro rfl;exact⟨rfl,q⟩
    ·rintro⟨h,_⟩;exact h.symm
   ·rw[Wu q];simp;rintro rfl;omega
 rw[g];cases j:qT s with
 | none=>simp[Ic]
 | some a =>
  rw[nu];constructor
  ·rintro(⟨d,b,f⟩ | ⟨d,b⟩)
   ·exact⟨.inl ⟨a,rfl,d,f⟩,b⟩
   ·exact⟨.inr d,b⟩
  ·rintro⟨⟨k,e,d,f⟩ | q,b⟩
   ·cases e;exact .inl ⟨d,b,f⟩
   ·exact .inr ⟨q,b⟩
def LQ(w:s.Wk b){c:Int}(h:qR s=some c):1<=c:=by
 unfold qR at h;split at h
 ·rename_i q;cases h;have:=w.cr q;omega
 ·cases h
def Kw(w:s.Wk b){x:Int}(h:Rg s x):1<=x:=by
 rcases h with ⟨a,e,d,c⟩ | h
 ·have:=(Bi e).1;omega
 ·exact LQ w h
def CM{t y:Int}(c:s.held=none)(k:1<=t)(j:1<=y):Rg (behind b s t) y↔Rg s (t+y):=by
 unfold Rg;rw[DI c,DT c (by omega)];have i:qT s=if s.aon then some ((s.sec - s.clock - 1)%86400+1) else none:=rfl
 have c0:qR s=if s.cr then some s.cl else none:=rfl
 rw[i,c0]
 have g:(if s.cr=true/\t<s.cl then some (s.cl - t) else none)=some y↔(if s.cr=true then some s.cl else none)=some (t+y):=by
  cases s.cr
  ·simp
  ·by_cases q:t<s.cl
   ·simp[q];omega
   ·simp[q];omega
 rw[g]
 have h:(∃a,(if s.aon=true then some ((s.sec - (s.clock+t)%86400 - 1)%86400+1) else none)=some a/\a<=y/\(y - a)%86400=0)↔(∃a,(if s.aon=true then some ((s.sec - s.clock - 1)%86400+1) else none)=some a/\a<=t+y/\(t+y - a)%86400=0):=by
  cases s.aon
  ·simp
  ·simp only[if_true]
   constructor
   ·rintro⟨a,e,f,d⟩
    cases e;exact⟨_,rfl,by omega,by omega⟩
   ·rintro⟨a,e,f,d⟩
    cases e;exact⟨_,rfl,by omega,by omega⟩
 rw[h]
def re(f:Nat->Nat)(s:WS):WS:={s with mode:=f s.mode}
def Oe(f:Nat->Nat)(d:rH)(s:WS):deed d (re f s)=re f (deed d s):=by
 cases d with
 | lap =>
  show(if s.lr then (if 4<=s.lk.length then re f s else {re f s with lk:=s.lk++[s.lm]}) else {re f s with lm:=0,lk:=[]}:WS)=re f (if s.lr then (if 4<=s.lk.length then s else {s with lk:=s.lk++[s.lm]}) else {s with lm:=0,lk:=[]});split
  ·split<;>rfl
  ·rfl
 | cminute=>show(if s.cr then _ else _:WS)=re f (if s.cr then _ else _:WS);split<;>rfl
 | csecond=>show(if s.cr then _ else _:WS)=re f (if s.cr then _ else _:WS);split<;>rfl
 | full=>show(if s.cr then _ else _:WS)=re f (if s.cr then _ else _:WS);split<;>rfl
 | _=>rfl
def Qm(x:Str):Prop:=qS (.str x)=true
def Lb:Qm CT:=by unfold Qm CT;rw[qS];decide +kernel
def Lu(s:WS):Qm (vW s):=by
 unfold Qm vW;rcases s.held with _ | ⟨x,k⟩
 ·rw[qS];decide +kernel
 ·show qS (.str x.X)=true
  rw[qS];cases x<;>decide +kernel
def MO(l:List IL):Prop:=∀p∈l,Qm p.2
def zR(k:Int)(l:List Int):MO (DP k l):=λp a=>by
 obtain⟨i,_,rfl⟩:=List.mem_map.mp a;exact Lb
def Hc(h1:MO x)(b:MO y):MO (x++y):=λp a=>by
 rcases WY.mp a with q | q
 ·exact h1 p q
 ·exact b p q
def NX(b:Bk)(s:WS)(e:Ev):MO (Ii b s e):=by
 cases e with
 | down x=>exact λp a=>by cases a
 | up x =>
  show MO (if Ji s x then [((0:Int),x.x)] else []);split
  ·exact λp a=>by rw[Wh.mp a];exact mO x
  ·exact λp a=>by cases a
 | ticks n =>
  show MO (yW b s n);unfold yW;split
  ·exact zR _ _
  ·split
   ·exact zR _ _
   ·refine Hc (zR _ _) λp a=>?_
    rcases Wo.mp a with rfl | q
    ·exact Lu s
    ·exact zR _ _ p q
theorem EV(b:Bk):∀(es:List Ev) (s:WS) (k:Int),MO (t_ b s k es)
 | [],_,_=>λp a=>by cases a
 | e::es,s,k=>Hc (λp a=>by obtain⟨q,c,rfl⟩:=List.mem_map.mp a;exact NX b s e q c) (EV b es _ _)
theorem hX:∀l:List IL,rP (l.map rE)<=1
 | []=>W4 _
 | p::l=>by
  have:=hX l;show max (rZ (rE p)) (rP (l.map rE))<=1;have:rZ (rE p)=1:=rfl;omega
theorem ie:∀l:List IL,MO l->q_ (l.map rE)=true
 | [],_=>rfl
 | p::l,h=>by
  have h1:qS (.str p.2)=true:=h p (.head _);have a:=ie l λq b=>h q (.tail _ b)
  show(qS (.tup [.int p.1,.str p.2])&&q_ (l.map rE))=true;rw[a,qS,q_,q_,q_,h1];rfl
def QC(h:e.Lt):e.Ok/\zA e:=by
 obtain⟨h1,b⟩:=h;cases e with
 | ticks n=>have a:1<=n:=h1;have c:n<=130:=b;exact⟨h1,a,by omega⟩
 | _=>exact⟨trivial,trivial⟩
theorem Kx:∀es:List Ev,(∀e∈es,e.Lt)->BE es<=130*(es.length:Int)
 | [],_=>by decide
 | e::es,h=>by
  have c:=Kx es λx a=>h x (.tail _ a)
  have b:=(h e (.head _)).2
  have:Ro e<=130:=by
   cases e with
   | ticks n=>exact b
   | _=>show(0:Int)<=130;decide
  show Ro e+BE es<=130*((es.length+1:Nat):Int);omega
structure Rl (b c:Bk) (f:Nat->Nat) (P:Nat->Prop):Prop where
 hold:c.hold=b.hold
 back:c.back=b.back
 p0:P 0
 f0:f 0=0
 face:∀m,P m->(c.md m).face=(b.md (f m)).face
 stays:∀m,P m->(c.md m).stays=(b.md (f m)).stays
 row1:∀m i,P m->i<6->(c.row m i).1=(b.row (f m) i).1
 row2:∀m i,P m->i<6->f (c.row m i).2=(b.row (f m) i).2
 rowP:∀m i,P m->i<6->P (c.row m i).2
def B_(w:s.Wk c)(b:s.held=none){n:Int}(e:0<=n):ticked c s n={counted c s n with mode:=if sE c s=true/\ro c s<=n then 0 else s.mode}:=by
 have a:n9 c s=if sE c s then some (ro c s) else none:=by unfold n9;rw[b]
 unfold ticked;rw[a];by_cases g:sE c s=true
 ·rw[Wc g]
  dsimp only;by_cases h:n<ro c s
  ·rw[Wc h,Wu λz=>by omega];rfl
  ·have d:1<=ro c s:=uA (by rw[a,Wc g])
   rw[Wu h,Wc ⟨g,by omega⟩,wj b];have:=E2 w (m:=ro c s) (n:=n - ro c s) (by omega) (by omega);rw[show ro c s+(n - ro c s)=n by omega] at this;rw[<- this];rfl
 ·rw[Wu g,Wu λz=>g z.1];rfl
section
variable{b c:Bk}{f:Nat->Nat}{P:Nat->Prop}(h:Rl b c f P)
include h
theorem EI{i:Nat}(a:P s.mode)(d:i<6):press b (re f s) i=re f (press c s i)/\P (press c s i).mode:=by
 refine⟨?_,h.rowP _ _ a d⟩;show({deed (b.row (f s.mode) i).1 (re f s) with mode:=(b.row (f s.mode) i).2}:WS)=re f {deed (c.row s.mode i).1 s with mode:=(c.row s.mode i).2};rw[<- h.row1 _ _ a d,<- h.row2 _ _ a d,Oe];rfl
theorem AX(s:WS)(n:Int):counted b (re f s) n=re f (counted c s n):=by
 have e:so b (re f s) n=so c s n:=by
  unfold so ro;rw[h.back];rfl
 show({re f s with clock:=(s.clock+n)%86400,lm:=sC s n,cl:=rD s n,cr:=runsOn s n,ring:=sY s n,held:=sD s.held n,idle:=so b (re f s) n}:WS)=_;rw[e];rfl
theorem Cf(d:P s.mode)(e:s.held=some (x,k))(t:Int):behind b (re f s) t=re f (behind c s t)/\P (behind c s t).mode:=by
 unfold behind;rw[AX h]
 have g:∃j,(counted c s t).held=some (x,j):=by
  show ∃j,sD s.held t=some (x,j);rw[e];cases k<;>exact⟨_,rfl⟩
 obtain⟨j,a⟩:=g;have l:turned c (counted c s t)=press c {counted c s t with held:=some (x,none)} (x.ix+3):=by unfold turned;rw[a]
 have i:turned b (re f (counted c s t))=press b (re f {counted c s t with held:=some (x,none)}) (x.ix+3):=by unfold turned;show(match (counted c s t).held with | none=>_ | some (x,_)=>_)=_;rw[a];rfl
 rw[l,i];exact EI h (s:={counted c s t with held:=some (x,none)}) d x.ix3
theorem NS(w:s.Wk c)(g:(re f s).Wk b)(a:P s.mode){n:Int}(d:0<=n):ticked b (re f s) n=re f (ticked c s n)/\P (ticked c s n).mode:=by
 rcases hh:s.held with _ | ⟨x,k⟩
 ·rw[B_ w hh d,B_ g hh d,AX h]
  have j:ro b (re f s)=ro c s:=by unfold ro;rw[h.back];rfl
  have m:sE c s=(decide (0<c.back)&&(!decide (s.mode=0)&&!(c.md s.mode).stays)):=rfl;have l:sE b (re f s)=(decide (0<b.back)&&(!decide (f s.mode=0)&&!(b.md (f s.mode)).stays)):=rfl;rw[j,l,m,<- h.back,<- h.stays _ a];refine⟨?_,?_⟩
  ·have key:(if (decide (0<c.back)&&(!decide (f s.mode=0)&&!(c.md s.mode).stays))=true/\ro c s<=n then 0 else f s.mode)=f (if (decide (0<c.back)&&(!decide (s.mode=0)&&!(c.md s.mode).stays))=true/\ro c s<=n then 0 else s.mode):=by
    by_cases z:f s.mode=0
    ·rw[z,Wu (by simp)]
     split
     ·exact h.f0.symm
     ·exact z.symm
    ·have e:s.mode≠0:=λy=>z (by rw[y];exact h.f0)
     rw[Wx z,Wx e];split
     ·exact h.f0.symm
     ·rfl
   show({re f (counted c s n) with mode:=_}:WS)=re f {counted c s n with mode:=_};unfold re;dsimp only;rw[key]
  ·show P (if _ then 0 else s.mode)
   split
   ·exact h.p0
   ·exact a
 ·have i:n9 b (re f s)=n9 c s:=by
   unfold n9;show(match s.held with | none=>_ | some (_,none)=>_ | some (_,some k)=>_)=_;rw[hh];cases k
   ·rfl
   ·rw[h.hold]
  unfold ticked;rw[i];cases n9 c s with
  | none=>exact⟨AX h s n,a⟩
  | some t =>
   dsimp only;obtain⟨p,o⟩:=Cf h a hh t;split
   ·exact⟨AX h s n,a⟩
   ·rw[p];exact⟨AX h _ _,o⟩
theorem Hg(w:s.Wk c)(d:(re f s).Wk b)(a:P s.mode)(e:Ev)(g:e.Ok):gone b (re f s) e=re f (gone c s e)/\P (gone c s e).mode:=by
 cases e with
 | down x =>
  show(if s.held.isSome then _ else _:WS)=re f (if s.held.isSome then _ else _:WS)/\P (if s.held.isSome then _ else _:WS).mode;split<;>exact⟨rfl,a⟩
 | up x =>
  show letGo b (re f s) x=re f (letGo c s x)/\P (letGo c s x).mode;unfold letGo;show(match s.held with | some (y,k)=>_ | none=>_)=re f (match s.held with | some (y,k)=>_ | none=>_)/\P (WS.mode (match s.held with | some (y,k)=>_ | none=>_));rcases s.held with _ | ⟨y,k⟩
  ·exact⟨rfl,a⟩
  ·dsimp only
   split
   ·split
    ·obtain⟨j,i⟩:=EI h a x.ix6
     rw[j];exact⟨rfl,i⟩
    ·exact⟨rfl,a⟩
   ·exact⟨rfl,a⟩
 | ticks n=>exact NS h w d a (by have:1<=n:=g;omega)
theorem K3(a:P s.mode):s_ b (re f s)=s_ c s:=by
 unfold s_;show D.tup [.str (b.md (f s.mode)).face.x,.str (AE (b.md (f s.mode)).face (re f s)),.bl (decide (0<s.ring))]=_;rw[<- h.face _ a];have:∀g:Face,AE g (re f s)=AE g s:=λg=>by cases g<;>rfl
 rw[this];rfl
end
def xO(p:IL):Bool:=!(p.2==oS "back")
def Aj(k:Int)(l:List Int):(DP k l).filter xO=DP k l:=List.filter_eq_self.mpr λp a=>by
 obtain⟨i,_,rfl⟩:=List.mem_map.mp a;show(!(CT==oS "back"))=true;decide +kernel
def FX(ok:b.Ok)(w:s.Wk b)(e:s.held=none){t n:Int}(d:1<=t)(j:t<=n):tK s t++(tK (behind b s t) (n - t)).map (t+·)=tK s n:=by
 have c:(behind b s t).Wk b:=(w.cnt (n:=t) (by omega)).trn ok;refine fY _ _ ?_ (La _) λx=>?_
 ·rw[List.pairwise_append]
  refine⟨La _,List.pairwise_map.mpr ((La _).imp λh=>by omega),λx i y g=>?_⟩;rw[bA] at i;obtain⟨z,hz,rfl⟩:=List.mem_map.mp g;rw[bA] at hz;have:=Kw c hz.1;omega
 ·rw[WY,List.mem_map,bA,bA]
  constructor
  ·rintro(⟨a,f⟩ | ⟨y,q,rfl⟩)
   ·exact⟨a,by omega⟩
   ·rw[bA] at q
    exact⟨(CM e d (Kw c q.1)).mp q.1,by omega⟩
  ·rintro⟨a,f⟩
   by_cases q:x<=t
   ·exact .inl ⟨a,q⟩
   ·refine .inr ⟨x - t,?_,by omega⟩
    rw[bA];refine⟨(CM e d (by omega)).mpr ?_,by omega⟩;rw[show t+(x - t)=x by omega];exact a
def EC(ok:c.Ok)(w:s.Wk c)(a:s.held=none)(n:Int):(yW c s n).filter xO=DP 0 (tK s n):=by
 unfold yW;cases d:n9 c s with
 | none=>exact Aj _ _
 | some t =>
  dsimp only;split
  ·exact Aj _ _
  ·rename_i e
   have b:xO (t,vW s)=false:=by
    unfold vW xO;rw[a];show(!(oS "back" == oS "back"))=false;decide +kernel
   rw[List.filter_append,List.filter_cons,Wu (by rw[b];exact We),Aj,Aj,<- FX ok w a (uA d) (Int.not_lt.mp e)];unfold DP;rw[Xb,List.map_map];congr 1;exact List.map_congr_left λi _=>by show(t+i,CT)=(0+(t+i),CT);rw[Xu]
section
variable{b c:Bk}{f:Nat->Nat}{P:Nat->Prop}(h:Rl b c f P)(ob:b.Ok)(oc:c.Ok)
include h ob oc
theorem QP(w:s.Wk c)(a:(re f s).Wk b)(g:P s.mode)(e:Ev):(Ii b (re f s) e).filter xO=(Ii c s e).filter xO:=by
 cases e with
 | ticks n =>
  show(yW b (re f s) n).filter xO=(yW c s n).filter xO;rcases hh:s.held with _ | ⟨x,k⟩
  ·rw[EC ob a hh,EC oc w hh];rfl
  ·have d:n9 b (re f s)=n9 c s:=by
    unfold n9;show(match s.held with | none=>_ | some (_,none)=>_ | some (_,some k)=>_)=_;rw[hh];cases k
    ·rfl
    ·rw[h.hold]
   unfold yW;rw[d];cases n9 c s with
   | none=>rfl
   | some t =>
    dsimp only;rw[(Cf h g hh t).1];rfl
 | _=>rfl
theorem HP:∀(es:List Ev) (s:WS) (k:Int),s.Ok c->(re f s).Ok b->P s.mode->(∀e∈es,e.Ok)->(t_ b (re f s) k es).filter xO=(t_ c s k es).filter xO
 | [],_,_,_,_,_,_=>rfl
 | e::es,s,k,w,w',hm,he=>by
  obtain⟨d,m⟩:=Hg h w.toWk w'.toWk hm e (he e (.head _));have i:=wO oc w e (he e (.head _));have a:=wO ob w' e (he e (.head _));rw[d] at a;show((Ii b (re f s) e).map _++t_ b (gone b (re f s) e) (k+MN e) es).filter xO=((Ii c s e).map _++t_ c (gone c s e) (k+MN e) es).filter xO;have g:∀l:List IL,(l.map λp=>(k+p.1,p.2)).filter xO=(l.filter xO).map λp=>(k+p.1,p.2):=λl=>by rw[List.filter_map];rfl
  rw[List.filter_append,List.filter_append,g,g,QP h ob oc w.toWk w'.toWk hm e,d,HP es _ _ i a m λx j=>he x (.tail _ j)]
theorem Cz:∀(es:List Ev) (s:WS),s.Ok c->(re f s).Ok b->P s.mode->(∀e∈es,e.Ok)->sights b (re f s) es=sights c s es
 | [],_,_,_,_,_=>rfl
 | e::es,s,w,w',hm,he=>by
  obtain⟨g,d⟩:=Hg h w.toWk w'.toWk hm e (he e (.head _));have i:=wO oc w e (he e (.head _));have a:=wO ob w' e (he e (.head _));rw[g] at a;show s_ b (gone b (re f s) e)::sights b (gone b (re f s) e) es=s_ c (gone c s e)::sights c (gone c s e) es;rw[g,K3 h d,Cz es _ i a d λx j=>he x (.tail _ j)]
end
def fz{b:Bk}(ok:b.Ok){m i:Nat}(a:m<b.modes.length)(c:i<6):b.row m i=(b.md m).row i:=by
 have e:=zc (m:=b.md m) (k:=i) (by rw[(tF ok a).six];exact c);show(b.md m).rows.getD i _=_;rw[Wn,e];rfl
def yL.rl{A:Bk}{ok:A.Ok}{T:Nat}{S:List Nat}(I:yL A ok T S):Rl (leB A (d5 (d9 A ok) T) S) A (λm=>S.idxOf (d5 (d9 A ok) T m)) (λm=>m<A.modes.length/\d5 (d9 A ok) T m∈S):=by
 have d:∀m,m<A.modes.length/\d5 (d9 A ok) T m∈S->_:=λm b=>xH (a:=d9 A ok) I.st b.1 (I.lt _ b.2) ((tL (a:=d9 A ok) T).id _ b.1).symm
 have e:∀m,m<A.modes.length/\d5 (d9 A ok) T m∈S->S[S.idxOf (d5 (d9 A ok) T m)]?=some (d5 (d9 A ok) T m):=λm b=>E9 b.2
 have g:∀m,m<A.modes.length/\d5 (d9 A ok) T m∈S->S.idxOf (d5 (d9 A ok) T m)<(leB A (d5 (d9 A ok) T) S).modes.length:=λm b=>by
  show _<(S.map _).length;rw[V9];exact List.idxOf_lt_length_iff.mpr b.2
 have z:S[0]?=some 0:=I.zero;have f:∀m i,m<A.modes.length/\d5 (d9 A ok) T m∈S->i<6->d5 (d9 A ok) T ((A.md (d5 (d9 A ok) T m)).row i).2=d5 (d9 A ok) T ((A.md m).row i).2:=λm i b c=>((d m b).2.2 i c).symm
 refine⟨rfl,rfl,⟨ok.some1,by rw[I.h0];exact Wi z⟩,?_,λm b=>?_,λm b=>?_,λm i b c=>?_,λm i b c=>?_,λm i b c=>?_⟩
 ·show S.idxOf (d5 (d9 A ok) T 0)=0
  rw[I.h0];exact LR I.nd (E9 (Wi z)) z
 ·rw[Fy (e m b)]
  exact congrArg Prod.fst (d m b).1
 ·rw[Fy (e m b)]
  exact congrArg Prod.snd (d m b).1
 ·rw[fz ok b.1 c,fz I.ok (g m b) c,y6 (e m b) c]
  exact(d m b).2.1 i c
 ·rw[fz ok b.1 c,fz I.ok (g m b) c,y6 (e m b) c]
  show S.idxOf _=S.idxOf _;rw[f m i b c]
 ·rw[fz ok b.1 c]
  refine⟨(tF ok b.1).nx _ (Wi (zc (by rw[(tF ok b.1).six];exact c))),?_⟩;rw[<- f m i b c];exact I.cl _ b.2 i c
def yL.same{A:Bk}{ok:A.Ok}{T:Nat}{S:List Nat}(I:yL A ok T S)(es:List Ev)(c:∀e∈es,e.Ok):sights (leB A (d5 (d9 A ok) T) S) qN es=sights A qN es/\(t_ (leB A (d5 (d9 A ok) T) S) qN 0 es).filter xO=(t_ A qN 0 es).filter xO:=by
 have h:=I.rl
 have b0:re (λm=>S.idxOf (d5 (d9 A ok) T m)) qN=qN:=by
  show({qN with mode:=S.idxOf (d5 (d9 A ok) T 0)}:WS)=qN;rw[h.f0];rfl
 have w:=yc ok;have a:=yc I.ok;have r1:=Cz h I.ok ok es qN w (by rw[b0];exact a) h.p0 c;have b:=HP h I.ok ok es qN 0 w (by rw[b0];exact a) h.p0 c;rw[b0] at r1 b;exact⟨r1,b⟩
def FY(h:f ρ=some (.bl b)):tQ f ρ=some b:=by
 show(f ρ).bind _=_;rw[h];rfl
theorem gh(f g:b->D):∀{as:List b},(∀a∈as,∃ ρ1,st (f a) ρ=some ρ1/\e ρ1=some (g a))->rh st rF e (as.map f) ρ=some (as.map g)
 | [],_=>rfl
 | a::as,h=>by
  obtain⟨ρ1,h1,i⟩:=h a Ws;have c:=gh (st:=st) (e:=e) (ρ:=ρ) f g (as:=as) λx d=>h x (Wt _ d)
  simp[rh,h1,i,c]
def nk(n:Int):cY [.int n]=some (.bl true):=k6 (retS (EX rfl rfl))
def pb{n l:Int}(h:l<=n):dH [.int n,.int l]=some (.bl true):=k6 (retS (EX (d8 rfl (nk n)) (HU (si rfl rfl (dT h)))))
def fo{n l m:Int}(h:l<=n)(a:n<=m):bp [.int n,.int l,.int m]=some (.bl true):=k6 (retS (EX (d8 rfl (pb h)) (HU (si rfl rfl (dT a)))))
def NZ(xs:LD):rY [.tup xs]=some (.int xs.length):=by simp
def eR{n:Int}(h:(xs.length:Int)=n):aC [.tup xs,.int n]=some (.bl true):=k6 (retS (EX rfl (HU (si (d8 rfl (NZ xs)) rfl (by rw[h];exact VL n)))))
def mC(b:Bool):cZ [.bl b]=some (.bl true):=k6 (retS rfl)
def oj(h:S3 (.str w) ws=some true):bR [.str w,ws]=some (.bl true):=k6 (retS (EX rfl (HU (si rfl rfl h))))
def N6(k:rH):S3 (.str k.x) gv=some true:=by cases k<;>decide +kernel
def Nq(f:Face):S3 (.str f.x) gS=some true:=by cases f<;>decide +kernel
def qF{a:Nat}(h:r.2<a):dq [q9 r,.int a]=some (.bl true):=by
 have b:uZ (.int (a:Int)) (.int 1)=some (.int ((a:Int) - 1)):=rfl;exact k6 (retS (EX (d8 rfl (eR rfl)) (EX (d8 (qM (i3 rfl rfl rfl) rfl) (oj (N6 r.1))) (d8 (qM (i3 rfl rfl rfl) (qM rfl (qM (i3 rfl rfl b) rfl))) (fo (by omega) (by omega))))))
def Ep(as:List b):Jl [.lst (as.map λ_=>D.bl true)]=some (.bl true):=by
 have h:∀as:List b,bools (as.map λ_=>D.bl true)=some (as.map λ_=>true):=λas=>by
  induction as with
  | nil=>rfl
  | cons a as ih=>show(bools (as.map λ_=>D.bl true)).map _=_;rw[ih];rfl
 show(bools (as.map λ_=>D.bl true)).map _=_;rw[h];show some (D.bl ((as.map λ_=>true).all id))=_;congr 2
 induction as with
 | nil=>rfl
 | cons a as ih=>simpa using ih
def pR{rows:List (rH×Nat)}{a:Nat}(f:rows.length=6)(h:∀r∈rows,r.2<a):cS [.tup (rows.map q9),.int a]=some (.bl true):=by
 have e:rh (setAt 0) rF (d3 dq (b8 (b9 0) (b8 (b9 2) d4))) (rows.map q9) (List.replicate 1 none++[some (.tup (rows.map q9)),some (.int a)])=some (rows.map λ_=>D.bl true):=gh _ _ λr d=>⟨_,rfl,d8 rfl (qF (h r d))⟩
 have c:=eR (xs:=rows.map q9) (n:=6) (by rw[V9,f];rfl);exact k6 ((i6 ((v5 (Et (b:=true) (FY (d8 rfl c)))).trans rfl)).trans (retS (d8 (qM (RI rfl (by rw[V9];exact IV (by omega)) e) rfl) (Ep rows))))
def pK{m:Md}{a:Nat}(h:m.Ok a):cG [m.d,.int a]=some (.bl true):=
 k6 ((i6 ((v5 (Et (b:=true) (FY (d8 rfl (eR (n:=3) rfl))))).trans rfl)).trans (retS (EX (d8 (qM (i3 rfl rfl rfl) rfl) (oj (Nq m.face))) (EX (d8 (qM (i3 rfl rfl rfl) rfl) (mC m.stays)) (d8 (qM (i3 rfl rfl rfl) rfl) (pR h.six h.nx))))))
def mZ{ms:List Md}(h1:1<=ms.length)(i:ms.length<=8)(h:∀m∈ms,m.Ok ms.length):cu [.tup (ms.map Md.d)]=some (.bl true):=by
 have a:rY [.tup (ms.map Md.d)]=some (.int ms.length):=by rw[NZ,V9]
 have f:rh (setAt 0) rF (d3 cG (b8 (b9 0) (b8 (d3 rY (b8 (b9 1) d4)) d4))) (ms.map Md.d) (List.replicate 1 none++[some (.tup (ms.map Md.d))])=some (ms.map λ_=>D.bl true):=gh _ _ λm c=>⟨_,rfl,d8 (qM rfl (qM (d8 rfl a) rfl)) (pK (h m c))⟩
 have g:Oj F_ F_ (kI 1) (d3 rY (b8 (b9 0) d4)) (λ_=>some bv) [some (.tup (ms.map Md.d))]=some true:=by
  have e:d3 rY (b8 (b9 0) d4) [some (.tup (ms.map Md.d))]=some (.int ms.length):=d8 rfl a;show((some (D.int 1)).bind λx=>(d3 rY (b8 (b9 0) d4) [some (.tup (ms.map Md.d))]).bind λy=>(F_ x y).bind λb=>if b then (some bv).bind λz=>F_ y z else some false)=_;rw[e];show(if decide ((1:Int)<=ms.length)=true then some (decide ((ms.length:Int)<=8)) else some false)=_;rw[Wc (by simp;omega)];congr 1;simp;omega
 exact k6 ((i6 ((v5 (Sf (Et (b:=true) (FY rfl)) (Et (b:=true) g))).trans rfl)).trans (retS (d8 (qM (RI rfl (by rw[V9];exact IV (by omega)) f) rfl) (Ep ms))))
def oK{b:Bk}(h:b.Ok):dG [b.d]=some (.bl true):=
 k6 ((i6 ((v5 (Et (b:=true) (FY (d8 rfl (eR (n:=3) rfl))))).trans rfl)).trans (retS (EX (d8 (qM (i3 rfl rfl rfl) rfl) (fo h.hold1 h.hold9)) (EX (d8 (qM (i3 rfl rfl rfl) rfl) (fo h.back0 h.back60)) (d8 (qM (i3 rfl rfl rfl) rfl) (mZ h.some1 h.some8 h.all))))))
def CV(d:rH):∃d':rH,d6 e8 (x3 (b8 (kS "none") (b8 (kS "hour") d4))) (d3 IN (b8 (zJ (i9 Kh (b9 0) (kS "count"))) d4)) (some (.str d.x)::r)=some (.str d'.x):=by
 have z:∀b:Bool,e8 (.lst [.str (oS "none"),.str (oS "hour")]) (.int (if b then 1 else 0))=some (.str (if b then rH.hour else rH.none).x):=λb=>by cases b<;>rfl
 exact⟨_,z (decide ((oS "count").cps.toList<d.x.cps.toList))⟩
def Jr{n:Nat}{m:Md}(h:m.Ok n){ms:List Md}(l:ms.length<=100){s0 s1 o6:OD}{r:R}:∃f:Md,f.Ok n/\∃k,cV (s0::s1::some (.tup (ms.map Md.d))::some (.str m.face.x)::some (.bl m.stays)::some (.tup (m.rows.map q9))::o6::r)=some (.nx (s0::s1::some (.tup ((ms++[f]).map Md.d))::some (.str m.face.x)::some (.bl m.stays)::some (.tup (m.rows.map q9))::k::r)):=by
 obtain⟨face,stays,rows⟩:=m;have i:=h.six;have nx:=h.nx
 match rows,i,nx with
 | ⟨d0,b⟩::⟨d1,a⟩::rs,i,nx =>
  obtain⟨e,h0⟩:=CV d0 (r:=some (.int (b:Int))::s0::s1::some (.tup (ms.map Md.d))::some (.str face.x)::some (.bl stays)::some (.tup ((⟨d0,b⟩::⟨d1,a⟩::rs).map q9))::o6::r);obtain⟨c,h1⟩:=CV d1 (r:=some (.int (a:Int))::s0::s1::some (.tup (ms.map Md.d))::some (.str face.x)::some (.bl stays)::some (.tup ((⟨d0,b⟩::⟨d1,a⟩::rs).map q9))::o6::r);have b0:b<n:=nx (d0,b) (.head _);have b1:a<n:=nx (d1,a) (.tail _ (.head _));refine⟨⟨.time,true,[(e,b),(c,a),(e,b),(c,a),(e,b),(c,a)]⟩,⟨rfl,λq g=>?_⟩,some (.tup [q9 (e,b),q9 (c,a)]),?_⟩
  ·simp only[Wo,List.not_mem_nil,or_false] at g
   rcases g with rfl | rfl | rfl | rfl | rfl | rfl<;>assumption
  ·have j:Jp (b9 5) MQ (aP (kI 2)) (s0::s1::some (.tup (ms.map Md.d))::some (.str face.x)::some (.bl stays)::some (.tup ((⟨d0,b⟩::⟨d1,a⟩::rs).map q9))::o6::r)=some (.tup [q9 (d0,b),q9 (d1,a)]):=by
    refine BP rfl rfl rfl ?_;show some (D.tup (cutD _ none (some 2)))=_;unfold cutD KP;simp
   have q:uh 2 (qU (Jp (b9 5) MQ (aP (kI 2)))) (zL [(setAt 0),(setAt 1)]) rF (l9 (b8 (d6 e8 (x3 (b8 (kS "none") (b8 (kS "hour") d4))) (d3 IN (b8 (zJ (i9 Kh (b9 0) (kS "count"))) d4))) (b8 (b9 1) d4))) (s0::s1::some (.tup (ms.map Md.d))::some (.str face.x)::some (.bl stays)::some (.tup ((⟨d0,b⟩::⟨d1,a⟩::rs).map q9))::o6::r)=some (.lst [q9 (e,b),q9 (c,a)]):=by
    refine RI (ds:=[q9 (d0,b),q9 (d1,a)]) ?_ (IV (show 2<=2000 by decide)) (LS rfl (tupS (qM h0 (qM rfl rfl))) (LS rfl (tupS (qM h1 (qM rfl rfl))) rfl));show(Jp _ _ _ _).bind _=_;rw[j];rfl
   refine(i6 (qO (d8 (F:=tu) (qM q rfl) rfl) rfl)).trans (qO (i3 rfl (tupS (qM (tupS (qM rfl (qM rfl (qM (i3 rfl rfl rfl) rfl)))) rfl)) (M0 ?_)) (by rw[Xb];rfl));rw[V9];show _+1<=1000;omega
theorem CY{n:Nat}:∀(l ms:List Md) (c o4 o5 o6:OD),(∀m∈l,m.Ok n)->ms.length+l.length<=100->∃a:List Md,a.length=l.length/\(∀m∈a,m.Ok n)/\∃s q p e,
  xE (zL [(setAt 3),(setAt 4),(setAt 5)]) cV (l.map Md.d) (s0::s1::some (.tup (ms.map Md.d))::c::o4::o5::o6::r)=some (.nx (s0::s1::some (.tup ((ms++a).map Md.d))::s::q::p::e::r))
 | [],ms,c,o4,o5,o6,_,_=>⟨[],rfl,λm h=>(by cases h),c,o4,o5,o6,by rw[WT];rfl⟩
 | m::l,ms,c,o4,o5,o6,h,hl=>by
  rw[WH] at hl;obtain⟨g,f,e,t⟩:=Jr (h m (.head _)) (ms:=ms) (by omega) (s0:=s0) (s1:=s1) (o6:=o6) (r:=r);obtain⟨a,u,w,o,k,j,i,v⟩:=CY (n:=n) (s0:=s0) (s1:=s1) (r:=r) l (ms++[g]) (some (.str m.face.x)) (some (.bl m.stays)) (some (.tup (m.rows.map q9))) e (λx b=>h x (.tail _ b)) (by rw[WB,List.length_singleton];omega);refine⟨g::a,by rw[WH,WH,u],λx b=>?_,o,k,j,i,?_⟩
  ·rcases Wo.mp b with rfl | b
   ·exact f
   ·exact w x b
  ·rw[Ww,Af (ρ1:=s0::s1::some (.tup (ms.map Md.d))::some (.str m.face.x)::some (.bl m.stays)::some (.tup (m.rows.map q9))::o6::r) rfl t,v,List.append_assoc];rfl
def Ll{k:Nat}(b:k<ρ.length)(h:u (ρ.set k none)=some (.nx ρ2))(a:k<ρ2.length):Dc k u ρ=some (.nx (ρ2.set k none)):=by
 unfold Dc;rw[Wc b,h];show(if k<ρ2.length then some (Out.nx (ρ2.set k none)) else none)=_;rw[Wc a]
def EJ{f:R->OD}{ρ:R}{l:List IL}(h:f ρ=some (.tup (l.map rE)))(a:l.length<=1000):uh 1 (qU f) (setAt 0) (i9 EE (d6 e8 (b9 0) (kI 1)) (kS "back")) (b9 0) ρ=some (.lst ((l.filter xO).map rE)):=by
 refine RI (ds:=l.map rE) (by show(f ρ).bind _=_;rw[h];rfl) (by rw[V9];exact IV (by omega)) ?_;show rh _ _ _ _ (none::ρ)=_;clear h a
 induction l with
 | nil=>rfl
 | cons p l ih =>
  have c:i9 EE (d6 e8 (b9 0) (kI 1)) (kS "back") (some (rE p)::ρ)=some (xO p):=si (i3 rfl rfl rfl) rfl rfl;rw[Ww,List.filter_cons];show(some (some (rE p)::ρ)).bind _=_;rw[Wa,c,Wa];cases xO p with
  | true=>rw[Wc rfl,Wc rfl,ih];rfl
  | false=>rw[Wu We,Wu We,ih];rfl
theorem AU:∀(es:List Ev) (s:WS) (k:Int),(∀e∈es,zA e)->(t_ b s k es).length<=9*es.length
 | [],_,_,_=>W4 _
 | e::es,s,k,h=>by
  have h1:=Dn b s (h e (.head _));have c:=AU (b:=b) es (gone b s e) (k+MN e) λx a=>h x (.tail _ a)
  show((Ii b s e).map _++t_ b (gone b s e) (k+MN e) es).length<=_;rw[WB,V9,WH];omega
theorem R7{n:Nat}(k:n<=8)(d:∀i j,i<n->j<n->i≠j->∃c b,al [L,.int (i:Int)]=some c/\al [L,.int (j:Int)]=some b/\ax [c,b]=some (.bl false)){i:Nat}(e:i<n):∀(a:List Nat) (o:OD),(∀j∈a,j<i) ->
  ∃p,xE (setAt 10) da (a.map λj:Nat=>D.int (j:Int)) (s0::s1::s2::s3::s4::s5::s6::some L::s8::some (.int (i:Int))::o::r)=some (.nx (s0::s1::s2::s3::s4::s5::s6::some L::s8::some (.int (i:Int))::p::r))
 | [],o,_=>⟨o,rfl⟩
 | j::a,o,h=>by
  have s:=h j (.head _);obtain⟨c,b,q,m,l⟩:=d i j e (by omega) (by omega);obtain⟨p,f⟩:=R7 k d (s0:=s0) (s1:=s1) (s2:=s2) (s3:=s3) (s4:=s4) (s5:=s5) (s6:=s6) (s8:=s8) (r:=r) e a (some (.int (j:Int))) λx g=>h x (.tail _ g)
  refine⟨p,?_⟩;have t:da (s0::s1::s2::s3::s4::s5::s6::some L::s8::some (.int (i:Int))::some (.int (j:Int))::r)=some (.nx (s0::s1::s2::s3::s4::s5::s6::some L::s8::some (.int (i:Int))::some (.int (j:Int))::r)):=yg (FY (d8 (qM (d8 rfl q) (qM (d8 rfl m) rfl)) l));rw[Ww,Af (ρ1:=s0::s1::s2::s3::s4::s5::s6::some L::s8::some (.int (i:Int))::some (.int (j:Int))::r) rfl t,f]
def jS{n:Nat}(h:f ρ=some (.int (n:Int)))(a:n<=1000):rj f ρ=some ((List.range n).map λx:Nat=>D.int (x:Int)):=by
 rw[inR h a];unfold sa;rw[show((n:Int) - 0).toNat=n by omega];congr 1;exact List.map_congr_left λx _=>by rw[Xu]
def Rr{n:Nat}(h:f ρ=some (.int (n:Int)))(a:n<=8):RB f ρ=some (.tup ((List.range n).map λx:Nat=>.int (x:Int))):=by
 have e:RB f ρ=RB (λ_=>some (.int (n:Int))) []:=by unfold RB;rw[h]
 rw[e];clear e h;rcases n with _ | _ | _ | _ | _ | _ | _ | _ | _ | n<;>first | omega | rfl
theorem Pw{n:Nat}(d:n<=8)(c:∀i j,i<n->j<n->i≠j->∃g e,al [L,.int (i:Int)]=some g/\al [L,.int (j:Int)]=some e/\ax [g,e]=some (.bl false)):∀(is:List Nat) (o a:OD),(∀i∈is,i<n) ->
  ∃p p',xE (setAt 9) eS (is.map λj:Nat=>D.int (j:Int)) (s0::s1::s2::s3::s4::s5::s6::some L::s8::o::a::r)=some (.nx (s0::s1::s2::s3::s4::s5::s6::some L::s8::p::p'::r))
 | [],o,a,_=>⟨o,a,rfl⟩
 | i::is,o,a,h=>by
  have l:=h i (.head _);obtain⟨q,t⟩:=R7 d c (s0:=s0) (s1:=s1) (s2:=s2) (s3:=s3) (s4:=s4) (s5:=s5) (s6:=s6) (s8:=s8) (r:=r) l (List.range i) a λx b=>List.mem_range.mp b
  obtain⟨p,p',k⟩:=Pw d c (s0:=s0) (s1:=s1) (s2:=s2) (s3:=s3) (s4:=s4) (s5:=s5) (s6:=s6) (s8:=s8) (r:=r) is (some (.int (i:Int))) q λx b=>h x (.tail _ b)
  refine⟨p,p',?_⟩
  have m:eS (s0::s1::s2::s3::s4::s5::s6::some L::s8::some (.int (i:Int))::a::r)=some (.nx (s0::s1::s2::s3::s4::s5::s6::some L::s8::some (.int (i:Int))::q::r)):=by
   unfold eS fV;exact wG (jS (f:=b9 9) (n:=i) rfl (by omega)) t
  rw[Ww,Af (ρ1:=s0::s1::s2::s3::s4::s5::s6::some L::s8::some (.int (i:Int))::a::r) rfl m,k]
def KG(E:List Int)(_:E.length<=63):iA [.fro (E.map .int)]=some (.bl true):=by
 obtain⟨n0,e0,_⟩:=xo E 0 (by decide);obtain⟨n1,e1,_⟩:=xo E 1 (by decide);obtain⟨n2,e2,_⟩:=xo E 2 (by decide);obtain⟨bd,hb,hbo,_⟩:=kF n0;obtain⟨o,rfl,g⟩:=m_ hbo;obtain⟨es,er,z,hl⟩:=kN n2 14 (by decide) (by decide);have hl14:es.length<=14:=hl;have w:∀e∈es,e.Ok:=λe B=>(z e B).1
 have k:∀e∈es,e.Ok/\zA e:=λe B=>QC (z e B)
 have v:BE es<1000000000000000000:=by have:=Kx es z;omega
 generalize hS:D.fro (E.map .int)=Sc at *
 have s1:jG (AM 14 [Sc])=some (.nx (AM 14 [Sc,o.d])):=qO (d8 (qM (d8 rfl e0) rfl) hb) rfl
 have s2:∃A:Bk,A.Ok/\∃a2 a3 a4 a5 a6,gI (AM 14 [Sc,o.d])=some (.nx [some Sc,some A.d,a2,a3,a4,a5,a6,none,none,none,none,none,none,none]):=by
  have c:i9 zo (d6 rn (d3 aO (b8 (b9 0) (b8 (kI 1) d4))) (kI 2)) (kI 0) (AM 14 [Sc,o.d])=some (n1%2==0):=si (i3 (d8 rfl e1) rfl rfl) rfl rfl;unfold gI;cases hc:(n1%2==0) with
  | false =>
   rw[hc] at c;exact⟨o,g,_,_,_,_,_,v5 c⟩
  | true =>
   rw[hc] at c;have n8:=g.some8;obtain⟨q,Y,a',p3,p4,p5,p6,t⟩:=CY (n:=o.modes.length) (s0:=some Sc) (s1:=some o.d) (r:=[none,none,none,none,none,none,none]) o.modes [] none none none none g.all (by simp;omega);rw[Xr] at t;refine⟨⟨o.hold,o.back,q⟩,⟨g.hold1,g.hold9,g.back0,g.back60,by show 1<=q.length;rw[Y];exact g.some1,by show q.length<=8;rw[Y];exact n8,λm hm=>by show m.Ok q.length;rw[Y];exact a' m hm⟩,_,_,_,_,_,(yU c).trans ((i6 (qO (d:=.tup []) rfl rfl)).trans ((i6 (wG (ds:=o.modes.map Md.d) rfl t)).trans (qO (d:=Bk.d ⟨o.hold,o.back,q⟩) (i3 (BP rfl rfl rfl rfl) (tupS (qM rfl rfl)) (M0 (by show 2+1<=1000;decide))) rfl)))⟩
 obtain⟨A,h,a2,a3,a4,a5,a6,s2⟩:=s2;obtain⟨T,S,I,eL⟩:=nZ h;obtain⟨rs,r1,r2,r3⟩:=I.reach;obtain⟨q1,q2⟩:=I.same es w;have Z:∀i j,i<S.length->j<S.length->i≠j->_:=λi j hi hj hne=>I.parted hi hj hne
 have F:=I.ok;have nL:=I.nev;have l8:=I.l8;have N:(leB A (d5 (d9 A h) T) S).modes.length=S.length:=V9 _;obtain⟨ms,x1,x2⟩:=Bl h F nL;have hms:(⟨A.hold,A.back,ms⟩:Bk).d=(leB A (d5 (d9 A h) T) S).d:=Wq (x1.symm.trans eL);have K:aJ [(leB A (d5 (d9 A h) T) S).d]=some (leB A (d5 (d9 A h) T) S).d:=by rw[x2,<- hms];rfl
 have hM:MP A ⟨A.hold%9+1,(A.back+1)%61,A.modes⟩:=Al.mpr λu hu=>rfl
 have m0:=WZ A.hold (show(9:Int)≠0 by decide);have m1:=WW A.hold (show(0:Int)<9 by decide);have m2:=WZ (A.back+1) (show(61:Int)≠0 by decide);have m3:=WW (A.back+1) (show(0:Int)<61 by decide);have oM:(⟨A.hold%9+1,(A.back+1)%61,A.modes⟩:Bk).Ok:=⟨by show 1<=A.hold%9+1;omega,by show A.hold%9+1<=9;omega,m2,by show(A.back+1)%61<=60;omega,h.some1,h.some8,h.all⟩
 obtain⟨G,y1,y2⟩:=Bl h oM hM
 have M:D.tup (G.map Md.d)=.tup ((leB A (d5 (d9 A h) T) S).modes.map Md.d):=by
  have h1:=Wq (y1.symm.trans eL);unfold Bk.d at h1;injection h1 with h1
  injection h1 with _ h1
  injection h1 with _ h1
  injection h1 with h1 _
 obtain⟨bb,z1,z2⟩:=jT h F;have hbb:bb=true:=z2.mpr nL;subst hbb;have esA:=lz h es w v (by omega);have O:=lz F es w v (by omega);rw[q1] at O;have etA:=jP h es k (by omega);have etL:=jP F es k (by omega);have hb1:(leB A (d5 (d9 A h) T) S).hold=A.hold:=rfl;have hb2:(leB A (d5 (d9 A h) T) S).back=A.back:=rfl;generalize leB A (d5 (d9 A h) T) S=L at *
 have J:(t_ A qN 0 es).length<=1000:=WD (AU es qN 0 λe B=>(k e B).2) (by omega);have H:(t_ L qN 0 es).length<=1000:=WD (AU es qN 0 λe B=>(k e B).2) (by omega);have s3:jx [some Sc,some A.d,a2,a3,a4,a5,a6,none,none,none,none,none,none,none]=some (.nx [some Sc,some A.d,a2,a3,a4,a5,a6,some L.d,none,none,none,none,none,none]):=qO (d8 rfl eL) rfl;have two:∀(x y:Int),uq (.tup [.int x,.int y]) (.tup [.int x,.int y])=some false:=λx y=>vt (by simp[rZ,rP]) rfl
 have s4:jR [some Sc,some A.d,a2,a3,a4,a5,a6,some L.d,none,none,none,none,none,none]=some (.nx [some Sc,some A.d,a2,a3,a4,a5,a6,some L.d,none,none,none,none,none,none]):=by
  refine yg (Sf (Et (b:=true) (FY (d8 rfl (oK F)))) (Sf (Et (b:=true) (FY (d8 rfl z1))) (Sf (si (d8 rfl K) rfl (vt (J7 L) (LA L))) (si (x:=.tup [.int L.hold,.int L.back]) (y:=.tup [.int A.hold,.int A.back]) (BP rfl rfl rfl rfl) (BP rfl rfl rfl rfl) ?_))));rw[hb1,hb2];exact two _ _
 have s5:ju [some Sc,some A.d,a2,a3,a4,a5,a6,some L.d,none,none,none,none,none,none]=some (.nx [some Sc,some A.d,a2,a3,a4,a5,a6,some L.d,some (.int (S.length:Int)),none,none,none,none,none]):=qO (d8 (qM (i3 rfl rfl rfl) rfl) (by rw[NZ,V9,N])) rfl
 have s:∀l:List Nat,uq (.tup (l.map λx:Nat=>.int (x:Int))) (.tup (l.map λx:Nat=>.int (x:Int)))=some false:=λl=>by
  have d:=Gi (l.map λx:Nat=>(x:Int));have y:=Gc (l.map λx:Nat=>(x:Int));rw[List.map_map] at d y;exact vt (by rw[rZ];exact WD (Nat.succ_le_succ (Nat.le_of_eq d)) (by decide)) (by rw[qS];exact y)
 have s6:jy [some Sc,some A.d,a2,a3,a4,a5,a6,some L.d,some (.int (S.length:Int)),none,none,none,none,none]=some (.nx [some Sc,some A.d,a2,a3,a4,a5,a6,some L.d,some (.int (S.length:Int)),none,none,none,none,none]):=by
  have t:=Rr (f:=b9 8) (ρ:=[some Sc,some A.d,a2,a3,a4,a5,a6,some L.d,some (.int (S.length:Int)),none,none,none,none,none]) (n:=S.length) rfl (by omega);refine yg (Sf (si (x:=.int (S.length:Int)) (y:=.int (rs.length:Int)) rfl (d8 (qM (d8 rfl r1) rfl) (by rw[NZ,V9])) ?_) (si (d8 rfl r3) t (s _)));show some (decide ((rs.length:Int)<(S.length:Int)))=_;rw[Wx (by omega)]
 obtain⟨C,a,t7⟩:=Pw (L:=L.d) l8 Z (s0:=some Sc) (s1:=some A.d) (s2:=a2) (s3:=a3) (s4:=a4) (s5:=a5) (s6:=a6) (s8:=some (.int (S.length:Int))) (r:=[none,none,none]) (List.range S.length) none none λx hx=>List.mem_range.mp hx
 have s7:gU [some Sc,some A.d,a2,a3,a4,a5,a6,some L.d,some (.int (S.length:Int)),none,none,none,none,none]=some (.nx [some Sc,some A.d,a2,a3,a4,a5,a6,some L.d,some (.int (S.length:Int)),C,a,none,none,none]):=by
  have hr:=jS (f:=b9 8) (ρ:=[some Sc,some A.d,a2,a3,a4,a5,a6,some L.d,some (.int (S.length:Int)),none,none,none,none,none]) (n:=S.length) rfl (by omega);unfold gU;exact wG hr t7
 have s8:jr [some Sc,some A.d,a2,a3,a4,a5,a6,some L.d,some (.int (S.length:Int)),C,a,none,none,none]=some (.nx [some Sc,some A.d,a2,a3,a4,a5,a6,some L.d,some (.int (S.length:Int)),C,a,some (.tup (es.map Ev.d)),none,none]):=qO (d8 (qM (d8 rfl e2) rfl) er) rfl;have s9:jw [some Sc,some A.d,a2,a3,a4,a5,a6,some L.d,some (.int (S.length:Int)),C,a,some (.tup (es.map Ev.d)),none,none]=some (.nx [some Sc,some A.d,a2,a3,a4,a5,a6,some L.d,some (.int (S.length:Int)),C,a,some (.tup (es.map Ev.d)),none,none]):=yg (si (d8 rfl esA) (d8 rfl O) (Iy A es qN));have U:hV [some Sc,some A.d,a2,a3,a4,a5,a6,some L.d,some (.int (S.length:Int)),C,a,some (.tup (es.map Ev.d)),none,none]=some (.nx [some Sc,some A.d,a2,a3,a4,a5,a6,some L.d,some (.int (S.length:Int)),none,a,some (.tup (es.map Ev.d)),some (.lst (((t_ A qN 0 es).filter xO).map rE)),none]):=Ll (ρ2:=[some Sc,some A.d,a2,a3,a4,a5,a6,some L.d,some (.int (S.length:Int)),none,a,some (.tup (es.map Ev.d)),some (.lst (((t_ A qN 0 es).filter xO).map rE)),none]) (show 9<14 by decide) (qO (EJ (d8 rfl etA) J) rfl) (show 9<14 by decide);have W:MO ((t_ A qN 0 es).filter xO):=λp Z=>EV A es qN 0 p (List.mem_filter.mp Z).1
 have X:uq (.lst (((t_ A qN 0 es).filter xO).map rE)) (.lst (((t_ A qN 0 es).filter xO).map rE))=some false:=by
  have h1:=hX ((t_ A qN 0 es).filter xO);exact vt (by rw[rZ];omega) (by rw[qS];exact ie _ W)
 have Q:ia [some Sc,some A.d,a2,a3,a4,a5,a6,some L.d,some (.int (S.length:Int)),none,a,some (.tup (es.map Ev.d)),some (.lst (((t_ A qN 0 es).filter xO).map rE)),none]=some (.nx [some Sc,some A.d,a2,a3,a4,a5,a6,some L.d,some (.int (S.length:Int)),none,a,some (.tup (es.map Ev.d)),some (.lst (((t_ A qN 0 es).filter xO).map rE)),none]):=
  Ll (ρ2:=[some Sc,some A.d,a2,a3,a4,a5,a6,some L.d,some (.int (S.length:Int)),none,a,some (.tup (es.map Ev.d)),some (.lst (((t_ A qN 0 es).filter xO).map rE)),none]) (show 9<14 by decide) (yg (si rfl (EJ (d8 rfl etL) H) (by rw[q2];exact X))) (show 9<14 by decide)
 have P:iz [some Sc,some A.d,a2,a3,a4,a5,a6,some L.d,some (.int (S.length:Int)),none,a,some (.tup (es.map Ev.d)),some (.lst (((t_ A qN 0 es).filter xO).map rE)),none]=some (.nx [some Sc,some A.d,a2,a3,a4,a5,a6,some L.d,some (.int (S.length:Int)),none,a,some (.tup (es.map Ev.d)),some (.lst (((t_ A qN 0 es).filter xO).map rE)),some (Bk.d ⟨A.hold%9+1,(A.back+1)%61,A.modes⟩)]):=qO (d:=Bk.d ⟨A.hold%9+1,(A.back+1)%61,A.modes⟩) (tupS (qM (i3 (i3 (i3 rfl rfl rfl) rfl rfl) rfl rfl) (qM (i3 (i3 (i3 rfl rfl rfl) rfl rfl) rfl rfl) (qM (i3 rfl rfl rfl) rfl)))) rfl;refine k6 ((i6 s1).trans ((i6 s2).trans ((i6 s3).trans ((i6 s4).trans ((i6 s5).trans ((i6 s6).trans ((i6 s7).trans ((i6 s8).trans ((i6 s9).trans ((i6 U).trans ((i6 Q).trans ((i6 P).trans ?_))))))))))))
 have eM:(⟨A.hold%9+1,(A.back+1)%61,G⟩:Bk).d=.tup ([.int (A.hold%9+1),.int ((A.back+1)%61)]++[.tup (L.modes.map Md.d)]):=by
  unfold Bk.d;rw[M];rfl
 refine retS (HU (si (d8 rfl y2) (i3 (BP (d:=.tup [.int (A.hold%9+1),.int ((A.back+1)%61)]) rfl rfl rfl rfl) (tupS (qM (i3 rfl rfl rfl) rfl)) (M0 (by show 2+1<=1000;decide))) ?_));rw[<- eM];exact CO (J7 _) (LA _)
end
end HW
set_option maxRecDepth 100000
namespace HW
open PySem PySem.Spec PyProof.Rows L2
variable{P:Wr}{w:WC}{K:Wb}{mg:Str->V3 V5}{base:WK}{k:Nat}{f:V_}{fd:W_}
noncomputable section
structure Am where
 P:Wr
 w:WC
 K:Wb
 mg:Str->V3 V5
 base:WK
structure Rc where
 x:Str
 st:Xi
 ps:List Str
 e:List Str
 F:LD->OD
 lv:Nat
structure Bz (K:Wb) (mg:Str->V3 V5):Prop where
 m0:mg "all" = none
 m1:mg "bool" = none
 m2:mg "int" = none
 m3:mg "isinstance" = none
 m4:mg "len" = none
 m5:mg "list" = none
 m6:mg "max" = none
 m7:mg "min" = none
 m8:mg "range" = none
 m9:mg "reversed" = none
 m10:mg "set" = none
 m11:mg "sorted" = none
 m12:mg "str" = none
 m13:mg "tuple" = none
 m14:mg "zip" = none
 c0:BO K mg "ALARM" aN
 c1:BO K mg "BLOCK" cH
 c2:BO K mg "CLOCK" aG
 c3:BO K mg "COUNT" aA
 c4:BO K mg "DAY" fH
 c5:BO K mg "DEEDS" gv
 c6:BO K mg "FACES" gS
 c7:BO K mg "FULL_RING" en
 c8:BO K mg "HELD" aR
 c9:BO K mg "IDLE" cX
 c10:BO K mg "LAPS" bD
 c11:BO K mg "MODE" bF
 c12:BO K mg "MOST_BACK" dX
 c13:BO K mg "MOST_HOLD" dY
 c14:BO K mg "MOST_KEPT" dW
 c15:BO K mg "MOST_MODES" bv
 c16:BO K mg "PRESSES" ao
 c17:BO K mg "RING" dE
 sP:NN K mg "PRESSES" bB
def Hk:WG->List Str
 | .Name x _=>[x]
 | .Tuple es _ _=>es.map λ| .Name x _=>x | _=>""
 | _=>[]
def nq{l:List Str}(h:decide l.Nodup=true:=by kernel_rfl):l.Nodup:=Xh h
def VH(r:X.calm=true)(o:SI X tg iter d)(p:∀C b a fp,GK X a->SG (yS X (Hk tg) scope C fp b a) tg c)(g:∀C b a fp,GK X a->Qf (yS X (Hk tg) scope C fp b a) e m)(q:∀C b a fp,GK X a->SE (yS X (Hk tg) scope C fp b a) h l)
  (i:xb (Hk tg).length c) (j:(Hk tg++X.N).Nodup) (s:wF scope X.env.scope (Hk tg) X.N=true:=by rfl) (n:∀x,foldedSetIterable iter X.env x=pure x:=by intro _;rfl) :
  SE X (.ListComp h [⟨tg,iter,e,0⟩] scope pos) (uh (Hk tg).length d c m l):=qB r o p g q i j s n
def VY{i:Nat}(A:X.calm=true)(B:X.N.Nodup)(v:SI X tg iter h)(y:∀C b a fp,GK X a->SG (yS X (Hk tg) scope C fp b a) tg d)(j:∀C b a fp,GK X a->Qf (yS X (Hk tg) scope C fp b a) e s)(z:∀C b a fp,GK X a->SE (yS X (Hk tg) scope C fp b a) g r)
  (m:xb (Hk tg).length d) (n:(Hk tg++X.N).Nodup) (o:X.N[i]?=some x:=by rfl) (t:Loc X.env.scope x:=by first | exact Or.inl rfl | exact Or.inr rfl) (p:X.fn x=true\/X.env.scope.names.lookup x=some .local:=by first | exact .inl rfl | exact .inr rfl)
  (E:wF scope X.env.scope (Hk tg) X.N=true:=by rfl) (l:swapsWith (.ListComp g [⟨tg,iter,e,0⟩] scope pos) (some (.Name x q)) c.line X.env=pure true:=by rfl) (u:∀x,foldedSetIterable iter X.env x=pure x:=by intro _;rfl) :
  S1 X (.Assign [.Name x q] (.ListComp g [⟨tg,iter,e,0⟩] scope pos) c) (i7 (uh (Hk tg).length h d s r) (setAt i)):=mN A B v y j z m n o t p E l u
abbrev Cr(q:Am)(r:Rc):Prop:=GF q.P q.w q.K q.mg q.base r.lv r.x r.ps r.F
abbrev Ct(q:Am)(ts:List rf)(r:Rc):Prop:=O6 q.P q.w q.K q.mg q.base r.lv r.x r.ps r.F ts
def ZD(q:Am)(r:Rc):Prop:=∀(f:V_) (fd:W_),Hh q.K r.x r.x r.st f fd->rM q.P q.w q.K q.mg q.base vq r.lv f fd r.ps (NT q.K r.F)
def ZT(q:Am)(a:List rf)(r:Rc):Prop:=∀(f:V_) (fd:W_),Hh q.K r.x r.x r.st f fd->rM q.P q.w q.K q.mg q.base vq r.lv f fd r.ps (DF q.K r.F a)
def zd{k:Nat}(i:∀(f:V_) (a:V5) (A:WM) (outer:List Env) (s:V7) (H:Hp) (E:XK),rJ k (A.deeper (envOfC r.x (g9 r.st) s.heap.objs.size f a))->SS (wY vq q.P q.w q.K q.mg q.base (r.ps++r.e) r.x (g9 r.st) f a A outer s H E).nox (qW r.st) g)(c:r.lv=k+1:=by rfl)(j:∀ds d,r.F ds=some d->rm (g (AM (r.ps++r.e).length ds))=some d:=by exact λ_ _ h=>fS h)(b:∀ds d,r.F ds=some d->ds.length=r.ps.length:=by exact λ_ _ h=>cK h)
  (sc:sL (r.ps++r.e) r.ps (g9 r.st):=by exact⟨rfl,rfl,rfl,by decide +kernel,rfl,by decide +kernel,by decide +kernel⟩):ZD q r:=λf fd l=>by
 rw[c];exact mj l sc b (i f) j
def zt{k:Nat}(j:∀(f:V_) (a:V5) (A:WM) (outer:List Env) (s:V7) (H:Hp) (E:XK),rJ k (A.deeper (envOfC r.x (g9 r.st) s.heap.objs.size f a))->TabsAt b H->SS (wY vq q.P q.w q.K q.mg q.base (r.ps++r.e) r.x (g9 r.st) f a A outer s H E).nox (qW r.st) g)(i:r.lv=k+1:=by rfl)(l:∀ds d,r.F ds=some d->rm (g (AM (r.ps++r.e).length ds))=some d:=by exact λ_ _ h=>fS h)(c:∀ds d,r.F ds=some d->ds.length=r.ps.length:=by exact λ_ _ h=>cK h)
  (sc:sL (r.ps++r.e) r.ps (g9 r.st):=by exact⟨rfl,rfl,rfl,by decide +kernel,rfl,by decide +kernel,by decide +kernel⟩):ZT q b r:=λf fd m=>by
 rw[i];exact lu m sc c (j f) l
abbrev xB:Rc:=⟨"is_whole",top 2,["thing"],[],cY,1⟩
abbrev y3:Rc:=⟨"is_from",top 3,["thing","least"],[],dH,2⟩
abbrev uT:Rc:=⟨"is_within",top 4,["thing","least","most"],[],bp,3⟩
abbrev sf:Rc:=⟨"is_tuple_of",top 6,["thing","many"],[],aC,1⟩
abbrev xk:Rc:=⟨"is_truth",top 1,["thing"],[],cZ,1⟩
abbrev uP:Rc:=⟨"is_one_of",top 5,["thing","words"],[],bR,1⟩
abbrev A1:Rc:=⟨"is_row",top 18,["thing","many"],[],dq,4⟩
abbrev xi:Rc:=⟨"are_rows",top 17,["thing","many"],[],cS,5⟩
abbrev yI:Rc:=⟨"is_mode",top 16,["thing","many"],[],cG,6⟩
abbrev wu:Rc:=⟨"are_modes",top 15,["thing"],[],cu,7⟩
abbrev yR:Rc:=⟨"is_book",top 14,["thing"],[],dG,8⟩
abbrev xS:Rc:=⟨"nexts",top 22,["mode"],[],bi,1⟩
abbrev vN:Rc:=⟨"pair_nexts",top 28,["one","other"],[],ba,2⟩
abbrev sv:Rc:=⟨"heads_of_nexts",top 36,["mode","heads"],[],af,2⟩
abbrev bE:Xi:=top 24
abbrev tw:Rc:=⟨"first_ways",top 23,["start","nexts_of"],["ways","newest"],ag,5⟩
abbrev qY:Rc:=⟨"ways_from",top 21,["book","mode"],[],bP,6⟩
abbrev C6:Rc:=⟨"reach",top 20,["book"],[],cD,7⟩
abbrev zY:Rc:=⟨"looks",top 30,["mode"],[],aY,1⟩
abbrev vI:Rc:=⟨"deeds_of",top 31,["mode"],[],ak,1⟩
abbrev xq:Rc:=⟨"partings",top 29,["one","other"],[],be,2⟩
abbrev sA:Rc:=⟨"parts",top 27,["one","other"],[],bZ,6⟩
abbrev wy:Rc:=⟨"are_alike",top 26,["one","other"],[],ax,7⟩
abbrev sZ:Rc:=⟨"first_places",top 35,["things"],[],aw,1⟩
abbrev u3:Rc:=⟨"parted_once",top 34,["modes","heads"],[],au,3⟩
abbrev uY:Rc:=⟨"alike_heads",top 33,["modes"],["heads","finer"],bU,4⟩
abbrev AK:Rc:=⟨"led_by",top 37,["mode","heads","order"],["rows"],cz,1⟩
abbrev sx:Rc:=⟨"least",top 32,["book"],[],aJ,6⟩
abbrev Ai:Rc:=⟨"begun",top 49,["book"],["alarm","laps","count"],eO,1⟩
abbrev yK:Rc:=⟨"laps_on",top 74,["laps","many"],[],dO,1⟩
abbrev xI:Rc:=⟨"count_on",top 75,["count","many"],["left"],c_,1⟩
abbrev ul:Rc:=⟨"alarm_tick",top 70,["state"],["alarm","second"],az,1⟩
abbrev uo:Rc:=⟨"count_tick",top 71,["state"],["count"],aL,1⟩
abbrev v_:Rc:=⟨"last_ring",top 72,["state","many"],["alarm","count","ticks"],cA,2⟩
abbrev za:Rc:=⟨"ring_on",top 76,["state","many"],["last"],dR,3⟩
abbrev yZ:Rc:=⟨"held_on",top 77,["held","many"],[],dL,1⟩
abbrev sM:Rc:=⟨"ticks_to_back",top 78,["book","state"],[],aV,1⟩
abbrev yY:Rc:=⟨"idle_on",top 79,["book","state","many"],["ticks"],dU,2⟩
abbrev wL:Rc:=⟨"counted",top 80,["book","state","many"],[],cL,4⟩
abbrev wz:Rc:=⟨"goes_back",top 81,["book","state"],[],cq,1⟩
abbrev ue:Rc:=⟨"ticks_to_long",top 82,["book","state"],[],bq,1⟩
abbrev uM:Rc:=⟨"turn_tick",top 83,["book","state"],["held"],bN,2⟩
abbrev uk:Rc:=⟨"put",top 50,["state","place","part"],[],ai,1⟩
abbrev CN:Rc:=⟨"nothing",top 52,["state"],[],cE,1⟩
abbrev Cm:Rc:=⟨"hour_on",top 53,["state"],[],cJ,2⟩
abbrev ze:Rc:=⟨"minute_on",top 54,["state"],["clock","within"],bQ,2⟩
abbrev Co:Rc:=⟨"to_zero",top 55,["state"],[],cI,2⟩
abbrev vT:Rc:=⟨"alarm_hour_on",top 56,["state"],["alarm"],aU,2⟩
abbrev uO:Rc:=⟨"alarm_minute_on",top 57,["state"],["alarm"],aI,2⟩
abbrev v4:Rc:=⟨"alarm_turned",top 58,["state"],["alarm"],a_,2⟩
abbrev w9:Rc:=⟨"laps_turned",top 59,["state"],["laps"],bj,2⟩
abbrev AN:Rc:=⟨"lap_kept",top 60,["state"],["laps"],cW,2⟩
abbrev wg:Rc:=⟨"set_to",top 61,["state","minute","second"],[],bV,2⟩
abbrev uW:Rc:=⟨"count_minute_on",top 62,["state"],["count"],aH,3⟩
abbrev uU:Rc:=⟨"count_second_on",top 63,["state"],["count"],aF,3⟩
abbrev Ex:Rc:=⟨"filled",top 64,["state"],["count"],dv,3⟩
abbrev wq:Rc:=⟨"count_turned",top 65,["state"],["count","runs"],bJ,2⟩
abbrev ut:Rc:=⟨"press_done",top 67,["book","state","press"],["rows","row","step"],bw,4⟩
abbrev A4:Rc:=⟨"turned",top 84,["book","state"],["held"],fv,5⟩
abbrev u5:Rc:=⟨"behind_turn",top 85,["book","state"],[],bh,6⟩
abbrev uJ:Rc:=⟨"stretches",top 86,["book","state","many"],["turn"],aW,7⟩
abbrev AT:Rc:=⟨"ticked",top 87,["book","state","many"],["last"],fc,8⟩
abbrev AS:Rc:=⟨"pushed",top 92,["state","button"],["ticks"],fh,2⟩
abbrev ur:Rc:=⟨"is_holding",top 94,["state","button"],[],bz,1⟩
abbrev vO:Rc:=⟨"is_short",top 95,["state","button"],[],bG,2⟩
abbrev Ax:Rc:=⟨"let_go",top 93,["book","state","button"],[],e_,5⟩
abbrev Dd:Rc:=⟨"gone",top 91,["book","state","event"],[],fe,9⟩
abbrev wD:Rc:=⟨"figures",top 97,["number"],["texts"],cF,1⟩
abbrev sF:Rc:=⟨"two_figures",top 98,["number"],[],aB,2⟩
abbrev uL:Rc:=⟨"hour_text",top 99,["hour","minute"],[],bL,3⟩
abbrev zp:Rc:=⟨"time_text",top 101,["state"],["clock"],cg,4⟩
abbrev yl:Rc:=⟨"alarm_text",top 102,["state"],["alarm"],b_,4⟩
abbrev tT:Rc:=⟨"minute_text",top 100,["seconds"],[],bo,3⟩
abbrev zD:Rc:=⟨"laps_text",top 103,["state"],["laps","kept"],cx,4⟩
abbrev ym:Rc:=⟨"count_text",top 104,["state"],[],bY,4⟩
abbrev DO:Rc:=⟨"shown",top 96,["book","state"],["face","face_text"],eY,5⟩
abbrev F5:Rc:=⟨"seen",top 107,["book","row"],["state","event","sights"],gc,10⟩
abbrev vH:Rc:=⟨"ring_ticks",top 73,["state","many"],["alarm","count","ticks"],aQ,2⟩
abbrev wk:Rc:=⟨"turn_sign",top 111,["state"],[],cy,1⟩
abbrev tj:Rc:=⟨"tick_happenings",top 110,["book","state","many"],["stretch","told"],aZ,8⟩
abbrev vD:Rc:=⟨"happenings",top 109,["book","state","event"],[],ay,9⟩
abbrev Du:Rc:=⟨"story",top 108,["book","row"],["state","ticks","event","told"],eV,10⟩
abbrev uy:Rc:=⟨"_law_cell_at",top 113,["_law_script","_law_k"],[],bH,1⟩
abbrev vR:Rc:=⟨"_law_mixed",top 114,["_law_script","_law_k"],["_law_drawn_here"],aO,2⟩
abbrev uv:Rc:=⟨"_law_drawn",top 115,["_law_number","_law_k"],["_law_drawn_here"],aq,1⟩
abbrev wt:Rc:=⟨"_law_book",top 116,["_law_number"],["_law_many","_law_deeds","_law_modes","_law_k","_law_drawn_here","_law_rows","_law_j","_law_one","_law_face"],ce,2⟩
abbrev vJ:Rc:=⟨"_law_event",top 117,["_law_number"],["_law_button","_law_kind"],aX,1⟩
abbrev xK:Rc:=⟨"_law_row",top 118,["_law_number","_law_most"],[],cU,2⟩
abbrev vE:Rc:=⟨"_law_first",top 119,["_law_book_here","_law_mode"],["_law_order","_law_modes","_law_one","_law_face","_law_stays","_law_rows","_law_pairs"],al,1⟩
abbrev zi:Rc:=⟨"law",top 120,["_law_script"],["_law_book_here","_law_modes","_law_face","_law_stays","_law_rows","_law_pairs","_law_told","_law_many","_law_one","_law_other","_law_row_here","_law_here","_law_more"],iA,11⟩
structure U6 (q:Am) (ts:List rf):Prop where
 ab:Cr q xS->Cs q.P q.w q.K q.mg q.base (2+1) Hx (xY 2 Ku)
 bt:Cr q vN->Cs q.P q.w q.K q.mg q.base (2+1) HI (xY 3 KF)
 cp:Cr q sv->Cs q.P q.w q.K q.mg q.base (2+1) Gv (xY 3 K4)
 d2:Ri q.P q.w q.K q.mg q.base 4 "one_press_on" ["ways","newest","nexts_of"] ae->ZD q tw
 ea:∀{ct:rf} {f:V_} {fd:W_},Cr q tw->ct∈ts->ct.q=("ways_from.<locals>.<lambda>" : Str)->rL q.mg [ct] q.base->GD q.K "ways_from" "ways_from" qY.st f fd ct.c->rM q.P q.w q.K q.mg q.base vq qY.lv f fd qY.ps (DF q.K bP ts)
 ee:∀{ct:rf} {f:V_} {fd:W_},Cr q tw->Cr q xq->ct∈ts->ct.q=("parts.<locals>.<lambda>" : Str)->rL q.mg [ct] q.base->GD q.K "parts" "parts" sA.st f fd ct.c->rM q.P q.w q.K q.mg q.base vq sA.lv f fd sA.ps (DF q.K bZ ts)
 eh:∀{ct:rf} {f:V_} {fd:W_},Cr q uY->Cr q tw->Cr q AK->ct∈ts->ct.q=("least.<locals>.<lambda>" : Str)->rL q.mg [ct] q.base->GD q.K "least" "least" sx.st f fd ct.c->rM q.P q.w q.K q.mg q.base vq sx.lv f fd sx.ps (DF q.K aJ ts)
 ej:ZD q xB
 em:Cr q xB->ZD q y3
 et:Cr q y3->ZD q uT
 ew:ZD q sf
 ez:ZD q xk
 eP:ZD q uP
 fm:Cr q uP->Cr q sf->Cr q uT->ZD q A1
 fx:Cr q A1->Cr q sf->ZD q xi
 fy:Cr q xi->Cr q uP->Cr q xk->Cr q sf->ZD q yI
 gg:Cr q yI->ZD q wu
 g8:Cr q wu->Cr q sf->Cr q uT->ZD q yR
 hH:ZD q xS
 hJ:Cr q xS->ZD q vN
 h9:Cr q xS->ZD q sv
 il:Ct q ts qY->ZT q ts C6
 iw:ZD q zY
 i0:ZD q vI
 j0:Cr q vI->Cr q zY->ZD q xq
 j1:Ct q ts sA->ZT q ts wy
 kb:ZD q sZ
 kd:Cr q sZ->Cr q sv->ZD q u3
 ke:Cr q vI->Cr q sZ->Cr q zY->Cr q u3->ZD q uY
 kf:ZD q AK
 k0:ZD q Ai
 la:ZD q yK
 lb:ZD q xI
 l0:ZD q ul
 mo:ZD q uo
 mu:Cr q ul->Cr q uo->ZD q v_
 nl:Cr q v_->ZD q za
 nC:ZD q yZ
 nP:ZD q sM
 n7:Cr q sM->ZD q yY
 oi:Cr q xI->Cr q yZ->Cr q yY->Cr q yK->Cr q za->ZD q wL
 ot:ZD q wz
 ov:ZD q ue
 oA:Cr q wz->Cr q sM->Cr q ue->ZD q uM
 oB:ZD q uk
 oR:ZD q CN
 oT:Cr q uk->ZD q Cm
 o3:Cr q uk->ZD q ze
 o7:Cr q uk->ZD q Co
 o8:Cr q uk->ZD q vT
 pa:Cr q uk->ZD q uO
 po:Cr q uk->ZD q v4
 pp:Cr q uk->ZD q w9
 pu:Cr q uk->ZD q AN
 py:Cr q uk->ZD q wg
 qc:Cr q wg->ZD q uW
 q0:Cr q wg->ZD q uU
 q7:Cr q wg->ZD q Ex
 rz:Cr q uk->ZD q wq
 r8:Cr q uk->Eo q.P q.w q.K q.mg q.base 3 "STEPS" wU->ZD q ut
 sb:Cr q ut->Cr q uk->ZD q A4
 sg:Cr q wL->Cr q uM->Cr q A4->ZD q u5
 sq:Cr q u5->Cr q uM->ZD q uJ
 ss:Cr q wL->Cr q uJ->ZD q AT
 sK:Cr q uk->ZD q AS
 sS:ZD q ur
 sT:Cr q ur->ZD q vO
 tp:Cr q ur->Cr q vO->Cr q ut->Cr q uk->ZD q Ax
 tz:Cr q Ax->Cr q AS->Cr q AT->ZD q Dd
 t0:ZD q wD
 t3:Cr q wD->ZD q sF
 ub:Cr q sF->ZD q uL
 uX:Cr q uL->Cr q sF->ZD q zp
 u1:Cr q uL->ZD q yl
 u8:Cr q wD->Cr q sF->ZD q tT
 vb:Cr q tT->ZD q zD
 vl:Cr q tT->ZD q ym
 v0:Eo q.P q.w q.K q.mg q.base 4 "FACE_TEXTS" ti->ZD q DO
 wb:Cr q Ai->Cr q Dd->Cr q DO->ZD q F5
 wh:Cr q ul->Cr q uo->ZD q vH
 wv:ZD q wk
 wE:Cr q vH->Cr q uJ->Cr q wk->ZD q tj
 wP:Cr q vO->Cr q tj->ZD q vD
 wS:Cr q Ai->Cr q Dd->Cr q vD->ZD q Du
 wT:ZD q uy
 xc:Cr q uy->ZD q vR
 xf:ZD q uv
 xm:Cr q uv->ZD q wt
 xn:ZD q vJ
 xr:Cr q uv->Cr q vJ->ZD q xK
 xw:ZD q vE
 xz:Cr q wt->Cr q vE->Cr q vR->Cr q xK->Ct q ts wy->Cr q yR->Ct q ts sx->Ct q ts C6->Cr q F5->Cr q Du->ZT q ts zi
section
variable{q:Am}{ts:List rf}(z:Bz q.K q.mg)
def se:sL ["ways","newest","nexts_of","place","ends","number","found"] ["ways","newest","nexts_of"] (g9 bE):=Vt
include z
theorem eE(b:U8 q.P q.w q.K q.mg q.base 3 LL)(c:Hh q.K "one_press_on" "one_press_on" bE f fd):rM q.P q.w q.K q.mg q.base vq (3+1) f fd ["ways","newest","nexts_of"] (UX q.P q.w q.K 3 ae):=by
  refine nS c se ?_;intro _ _ _ _ _ _ a;exact(OL 6 se.nd
  (Kk PassesOwn.never rfl (ml (aK 1)) (eX 3 se.nd)
  (Fl (N1 (me (lY 2 b a (aj (aK 3) aD)) (eX 4 se.nd)))
  (DM (Kk PassesOwn.never rfl (jH z.m8 (db l_ z.m4 (aj (jn z.c16) aD))) (eX 5 se.nd)
  (DM (S9 (KJ 0 (FF a) (iT (aK 4) (aK 5)))
  (Fl (Rb 0 (FF a) (iT (aK 4) (aK 5)) (Sg lX (PJ 0 (FF a) (aK 3)) (S2 (iT (jn z.c16) (aK 5)))))
  (DM (P6 6 (iT (aK 4) (aK 5)))))
  NK)))))))
set_option maxHeartbeats 0 in
theorem VP:U6 q ts:=by
 refine U6.mk (λ_=>F9 (t:=Hx) (g:=Ku) (λ_ _ _ _ _ _ _ _ _ y=>?_) (Gm λ| _,_,_,_,[_],_=>rfl))
  (λ_=>F9 (t:=HI) (g:=KF) (λ_ _ _ _ _ _ _ _ _ y=>?_) (Gm λ| _,_,_,_,[_],_=>rfl))
  (λ_=>F9 (t:=Gv) (g:=K4) (λ_ _ _ _ _ _ _ _ _ y=>?_) (Gm λ| _,_,_,_,[_],_=>rfl))
  (λC=>zd λ_ _ _ _ _ _ _ y=>mB 4 0 1 2 3 PassesOwn.never C rfl y nq ?_ kX λ_ _ _ r=>r)
  (@λct f _ _ hct hq TB Fn=>rM.tabs hct (gl (N:=["book","mode"]) Fn ⟨rfl,rfl,rfl,by decide +kernel,rfl,by decide +kernel,by decide +kernel⟩ (λ_ _ h=>cK h) (λA outer s H E y hT=>have:=Kl (X:=(wY vq q.P q.w q.K q.mg q.base ["book","mode"] "ways_from" (g9 qY.st) f (.ref ct.c) A outer s H E).nox) (t:=Hx) (ct:=ct) (x:="book") (c:=s.heap.objs.size+1) (j:=0) TB hT hq.symm rfl hq.symm (λ_=>rfl) rfl rfl rfl rfl rfl rfl rfl rfl (by decide) rfl (by decide +kernel) (by decide +kernel) rfl (by decide +kernel);?_) λ_ _ h=>fS h))
  (@λct f _ _ _ hct hq TB Fn=>rM.tabs hct (gl (N:=["one","other","ways","pair","texts"]) Fn ⟨rfl,rfl,rfl,by decide +kernel,rfl,by decide +kernel,by decide +kernel⟩ (λ_ _ h=>cK h) (λA outer s H E y hT=>have:=Fe (X:=(wY vq q.P q.w q.K q.mg q.base ["one","other","ways","pair","texts"] "parts" (g9 sA.st) f (.ref ct.c) A outer s H E).nox) (t:=HI) (ct:=ct) (x:="other") (y:="one") (c:=s.heap.objs.size+2) (d:=s.heap.objs.size+1) (j:=1) (l:=0) TB hT hq.symm rfl hq.symm (λ_=>rfl) rfl rfl rfl rfl rfl rfl rfl rfl (by decide) (λh=>Wz (Nat.add_left_cancel h) (by decide)) rfl rfl rfl (by decide) rfl (by decide +kernel) (by decide +kernel) rfl rfl (by decide +kernel);?_) λ_ _ h=>fS h))
  (@λct f _ _ _ _ hct hq TB Fn=>rM.tabs hct (gl (N:=["book","modes","heads","order"]) Fn ⟨rfl,rfl,rfl,by decide +kernel,rfl,by decide +kernel,by decide +kernel⟩ (λ_ _ h=>cK h) (λA outer s H E y hT=>have:=Fe (X:=(wY vq q.P q.w q.K q.mg q.base ["book","modes","heads","order"] "least" (g9 sx.st) f (.ref ct.c) A outer s H E).nox) (t:=Gv) (ct:=ct) (x:="modes") (y:="heads") (c:=s.heap.objs.size+3) (d:=s.heap.objs.size+2) (j:=1) (l:=2) TB hT hq.symm rfl hq.symm (λ_=>rfl) rfl rfl rfl rfl rfl rfl rfl rfl (by decide) (λh=>Wz (Nat.add_left_cancel h) (by decide)) rfl rfl rfl (by decide) rfl (by decide +kernel) (by decide +kernel) rfl rfl (by decide +kernel);?_) λ_ _ h=>fS h)) ?_ ?_ ?_ ?_ ?_ ?_ ?_ ?_ ?_ ?_ ?_ ?_ ?_ ?_ ?_ ?_ ?_ ?_ ?_ ?_ ?_ ?_ ?_ ?_ ?_ ?_ ?_ ?_ ?_ ?_ ?_ ?_ ?_ ?_ ?_ ?_ ?_ ?_ ?_ ?_ ?_ ?_ ?_ ?_ ?_ ?_ ?_ ?_ ?_ ?_ ?_ ?_ ?_ ?_ ?_ ?_ ?_ ?_ ?_ ?_ ?_ ?_ ?_ ?_ ?_ ?_ ?_ ?_ ?_ ?_ ?_ ?_ ?_ ?_ ?_ ?_ ?_ ?_ ?_ ?_ ?_ ?_ ?_ ?_ ?_
 any_goals (intros;first | refine zd ?_ | refine zt ?_)
 all_goals try with_reducible intro _ _ _ _ _ _ _ y
 all_goals try with_reducible intro t
 all_goals
  repeat' first
   | ((with_reducible show SE _ (.Name _ _) (b9 _));exact aK _)
   | ((with_reducible show SE _ (.Name _ _) _);exact jn (by first | exact z.c0 | exact z.c1 | exact z.c2 | exact z.c3 | exact z.c4 | exact z.c5 | exact z.c6 | exact z.c7 | exact z.c8 | exact z.c9 | exact z.c10 | exact z.c11 | exact z.c12 | exact z.c13 | exact z.c14 | exact z.c15 | exact z.c16 | exact z.c17))
   | ((with_reducible show SE _ (.Constant _ _ _) _);first | exact pg | exact kX | exact ou | exact ql)
   | ((with_reducible show SE _ (.Subscript _ _ _) (d6 e8 _ _));refine iT ?_ ?_)
   | ((with_reducible show SE _ (.Subscript _ _ _) _);first | refine kO ?_ ?_ ?_ | refine mD (FF y) ?_ ?_)
   | ((with_reducible show SE _ (.BinOp _ _ _ _) _);refine qi ?_ ?_ ?_)
   | ((with_reducible show SE _ (.Tuple _ _ _) _);refine pz ?_)
   | ((with_reducible show SE _ (.Compare _ _ _ _) _);refine pD ?_ ?_ ?_)
   | ((with_reducible show SE _ (.ListComp _ _ _ _) _);refine VH rfl ?_ ?_ ?_ ?_ ?_ nq)
   | ((with_reducible show SE _ _ (d3 rY _));refine db l_ z.m4 ?_)
   | ((with_reducible show SE _ _ (d3 DY _));refine db (oY rfl) z.m6 ?_)
   | ((with_reducible show SE _ _ (d3 tu _));refine fG kR z.m13 ?_)
   | ((with_reducible show SE _ _ (d3 Dx _));refine fG pj z.m12 ?_)
   | ((with_reducible show SE _ _ (d3 Jl _));refine db (pT rfl) z.m0 ?_)
   | ((with_reducible show SE _ _ (d3 IN _));refine fG pc z.m2 ?_)
   | ((with_reducible show SE _ _ (d3 A9 _));refine nM y ?_ ?_)
   | ((with_reducible show SE _ _ (d3 uE _));refine mY ?_ ?_)
   | ((with_reducible show SE _ _ (d3 _ _));first | refine jL (by assumption) (y.mono (by decide)) ?_ | refine j4 (by assumption) (y.mono (by decide)) t ?_)
   | ((with_reducible show SE _ _ _);first | refine oJ ?_ ?_ | refine pH ?_ | refine qj ?_ ?_ ?_ | exact kB z.m3 (by first | exact z.m1 | exact z.m2 | exact z.m12 | exact z.m13) (aK _) | refine pO ?_ | refine oF ?_ | refine oX z.sP ?_ | refine qk ?_ | refine qD oC ?_ | refine qo rfl z.m13 z.m8 ?_ | refine kA (GF.m (by assumption)) y (by assumption) (LC ?_ (QG (by assumption))) | refine na rfl z.m5 z.m14 ?_ ?_ | refine lA rfl z.m11 ?_ | refine mE rfl z.m7 z.m4 ?_ | refine mv rfl z.m5 ?_ | refine np rfl z.m6 ?_ | refine qg ?_ ?_ | refine lE rfl z.m9 ?_ ?_ | refine qt rfl z.m11 z.m10 ?_ | refine jL (by assumption) (y.mono (by decide)) ?_)
   | ((with_reducible show SA _ _ _);first | exact aD | refine aj ?_ ?_)
   | ((with_reducible show SS _ (_::_::_) (i4 _ _));refine jB ?_ ?_)
   | ((with_reducible show SS _ [_] _);refine lU ?_)
   | ((with_reducible show SS _ _ _);first | exact pS | refine jB ?_ ?_ | refine lU ?_ | refine oH _ nq ?_ ?_ | refine qy _ nq (by assumption) ?_ ?_)
   | ((with_reducible show S1 _ _ (Dc _ _));refine nU _ ".h" ?_)
   | ((with_reducible show S1 _ (.Return _ _) _);refine nY ?_)
   | ((with_reducible show S1 _ (.If _ _ _ _) _);refine qp ?_ ?_ ?_)
   | ((with_reducible show S1 _ (.Assign _ (.ListComp _ _ _ _) _) _);refine VY rfl nq ?_ ?_ ?_ ?_ ?_ nq)
   | ((with_reducible show S1 _ (.Assign _ _ _) _);refine me ?_ ?_)
   | ((with_reducible show S1 _ _ _);first | refine qu PassesOwn.never rfl ?_ ?_ ?_ | refine lR _ PassesOwn.never ?_ ?_ | refine lq PassesOwn.never ?_ | refine nY ?_ | refine qp ?_ ?_ ?_ | refine me ?_ ?_ | refine nU _ ".h" ?_)
   | ((with_reducible show SG _ _ _);first | exact eX _ nq | refine pL rfl ?_)
   | ((with_reducible show Sd _ _ _);first | refine my ?_ ?_ | exact nN)
   | with_reducible first | exact lX | exact pi | exact oo | exact pk | exact oZ | exact mS | exact qz | exact qf | exact lK | exact qe | exact qm | exact qw | exact qa | exact pX | apply qK | apply qd | apply oV | apply pf
   | ((with_reducible show HW.ST _ (.Compare _ [_] _ _) _);refine pM ?_ ?_ ?_)
   | ((with_reducible show HW.ST _ _ _);first | refine nT (oe ?_ ?_) | refine nT (lS ?_ ?_) | refine ow ?_ | refine kQ ?_ ?_ ?_ ?_ ?_ | refine pG ?_)
   | ((with_reducible show SW _ _ _);first | refine oe ?_ ?_ | refine pW ?_ | refine lS ?_ ?_ | refine nh ?_)
   | ((with_reducible show SO _ _ _);first | exact mH | refine nt ?_)
   | ((with_reducible show SI _ _ _ _);first | refine ml ?_ | refine jH z.m8 ?_ | refine pC ?_)
   | ((with_reducible show OB _ _ _);first | refine ng ?_ ?_ | refine o_ ?_ | refine kY _ rfl z.m5 z.m8 nq ?_ ?_ ?_ ?_ ?_)
   | ((with_reducible show OS _ _ _);first | refine qx ?_ ?_ ?_ | refine oU _ ?_ | refine oO _ ?_ | refine oP PassesOwn.never rfl ?_ ?_ ?_ | refine mU ?_)
   | ((with_reducible show Ox _ _ _);first | exact mP | refine nA ?_ | refine lB ?_ ?_ | refine kJ ?_)
   | ((with_reducible show Qp _ _ _ _ _);first | refine IK (by assumption) y ?_ | refine MU ?_ | refine KH (GF.m (by assumption)) y ?_ | refine Qk ?_)
   | ((with_reducible show RP _ _ _ _ _);first | refine LN ?_ ?_ | refine QE ?_)
   | ((with_reducible show T9 _ _ _ _ _);refine Rp ?_)
   | ((with_reducible show xb _ _);first | exact B8 (by decide) | exact IF (by intro f a;simp only[Wo,List.not_mem_nil,or_false] at a;rcases a with rfl | rfl<;>exact B8 (by decide)))
   | exact y
   | (with_reducible intro _)
   | first | exact pQ | refine pd ?_
end
end
end HW
namespace HW
open PySem PySem.Spec PyProof.Rows L2
abbrev Fr(K:Wb)(r:Rc)(f:V_):Prop:=Tu K r.x r.st f
section
variable{K:Wb}{mg:Str->V3 V5}{h:WK}(X:K.In h)(G:h.Ns mainGlobals mg){P:Wr}{w:WC}{base:WK}{r:Rc}{f:V_}
include X G
theorem Vv(a:Fr K r f)(ok:ZD ⟨P,w,K,mg,base⟩ r)(e:∀(kV b pm:V5) (g:V3 V_) (c ct:V5) (us:List V5),us.length=r.ps.length->bindArgs (W.fnOf r.x r.x (rK r.st) (qW r.st) (g9 r.st) .none kV b pm g c ct) ⟨us,[]⟩=pure (r.ps.zip us):=by intro _ _ _ _ _ _ _ h;first | (obtain⟨_,rfl⟩:=U5 h;rfl) | (obtain⟨_,_,rfl⟩:=ln2 h;rfl) | (obtain⟨_,_,_,rfl⟩:=U9 h;rfl)):Cr ⟨P,w,K,mg,base⟩ r:=by
 obtain⟨d,F,a⟩:=TQ a;exact pI F (Xo X G a) (F.binds e) (ok _ _ F)
theorem Vb(a:Fr K r f)(ok:ZT ⟨P,w,K,mg,base⟩ e r)(g:∀(kV b pm:V5) (i:V3 V_) (c ct:V5) (us:List V5),us.length=r.ps.length->bindArgs (W.fnOf r.x r.x (rK r.st) (qW r.st) (g9 r.st) .none kV b pm i c ct) ⟨us,[]⟩=pure (r.ps.zip us):=by intro _ _ _ _ _ _ _ h;first | (obtain⟨_,rfl⟩:=U5 h;rfl) | (obtain⟨_,_,rfl⟩:=ln2 h;rfl) | (obtain⟨_,_,_,rfl⟩:=U9 h;rfl)):Ct ⟨P,w,K,mg,base⟩ e r:=by
 obtain⟨d,F,a⟩:=TQ a;exact⟨_,_,ok _ _ F,Xo X G a,F.kp,F.binds g⟩
theorem EF{k:Nat}(a:Fr K r f)(C:Cr ⟨P,w,K,mg,base⟩ r)(b:r.lv<=k:=by decide):RN P w K mg base k f r.F:=
 let ⟨_,_,a⟩:=TQ a
 Q0 (C.mono b) (Xo X G a)
theorem Ga{n:Int}(q:W.nsIn K mainGlobals x=some (some (.int n t))):BO K mg x (.int n):=⟨_,.int n,Xo X G q,⟨_,rfl⟩,λH=>rfl⟩
end
def Up{K:Wb}(c:NN K mg x ws)(d:ws.length<=sizeLine:=by decide):BO K mg x (.tup (ws.map .str)):=by
 obtain⟨a,b,n,e,m,l,v⟩:=c;refine⟨.ref a,.ref a,m,rfl,λH=>⟨a,ws.map .str,rfl,.inr ⟨_,_,_,l,rfl,rfl,rfl,by have z:=v.length;simp at z;omega,v⟩,?_⟩⟩;clear v l d
 induction ws with
 | nil=>rfl
 | cons w ws ih=>exact⟨_,_,rfl,rfl,ih⟩
theorem CF(K:Wb)(H:Hp):∀a:List Int,g7 K H (a.map .int) (a.map V.int)
 | []=>rfl
 | n::a=>⟨.int n,_,rfl,rfl,CF K H a⟩
def all_mk{l:W.OpenLaw}{w:WC}{K:Wb}{h:WK}{mg:Str->V3 V5}{fa:V_}
  {g C:V_} {ow16:V5} {ox16:V3 V_} {vw16:Array V5} {sw16:Array (V3 V5)} {f16:V_} {od16 an16:V3 V_} {sl16:Array (V3 V5)} {oc16 kV16 dc16 pm16 ct16:V5}
  {b B:V_} {ow21:V5} {ox21:V3 V_} {vw21:Array V5} {sw21:Array (V3 V5)} {f21:V_} {od21 an21:V3 V_} {sl21:Array (V3 V5)} {oc21 kV21 dc21 pm21 ct21:V5}
  {a A:V_} {ow27:V5} {ox27:V3 V_} {vw27:Array V5} {sw27:Array (V3 V5)} {f27:V_} {od27 an27:V3 V_} {sl27:Array (V3 V5)} {oc27 kV27 dc27 pm27 ct27:V5}
  {f89:V_} {od89 an89:V3 V_} {sl89:Array (V3 V5)} {oc89 kV89 dc89 pm89 cd89 ct89:V5}
  {Mc:Tok}
  {Me:Tok}
  {Mf:Tok}
  {Mg:Tok}
  {Rt:Tok}
  {Bp:V_} {Mh:Nat} {Mi:Array (V3 V5)} {Mj Mk Ml Mm Mn Mo Mp Mq Mr Ms JA JB JC:Tok}
  {Bq:V_} {Mt:Nat} {Mu:Array (V3 V5)} {Mv Mw Mx Mz:Tok}
  {D7:Tok}
  {OM:Tok}
  {ON:Tok}
  {OO:Tok}
  {OP:Tok}
  {D9:Tok}
  {D_:Tok}
  {Ea:Tok}
  {BZ:Tok}
  {xN:V_} {GQ:Nat} {GR:Array (V3 V5)} {GS GT GU GV GW GX:Tok}
  {OQ:Tok}
  {u7:V_} {B0:Nat} {Br Bs Bt Bu:Tok}
  {Bv:V_} {MA:Nat} {JD JE JF JG JH JI JJ JK JL JM GY GZ G0:Tok}
  {q:Wr}
  {f0 f1 f2 f3 f4 f5 f6 f7 f8 f9 f10 f11 f12 f13 f14 f15 f17 f18 f19 f20 f22 f23 f24 f25 f26 f28 f29 f30 f31 f32 f33 f34 f35 f36 f37 f38 f39 f40 f41 f42 f43 f44 f45 f46 f47 f48 f49 f50 f51 f52 f53 f54 f55 f56 f57 f58 f59 f60 f61 f62 f63 f64 f65 f66 f67 f68 f69 f70 f71 f72 f73 f74 f75 f76 f77 f78 f79 f80 f81 f82 f83 f84 f85 f86 f87 f88:V_}
  (X:K.In h) (G:h.Ns mainGlobals mg) (hfa:mg "law" = some (.ref fa))
  (a0:Fr K xB f0)
  (a1:Fr K y3 f1)
  (a2:Fr K uT f2)
  (a3:Fr K sf f3)
  (a4:Fr K xk f4)
  (a5:Fr K uP f5)
  (a6:Fr K A1 f6)
  (a7:Fr K xi f7)
  (a8:Fr K yI f8)
  (a9:Fr K wu f9)
  (a10:Fr K yR f10)
  (a11:Fr K xS f11)
  (a12:Fr K vN f12)
  (a13:Fr K sv f13)
  (a14:Tu K "one_press_on" bE f14)
  (a15:Fr K tw f15)
  (a16:W.nsIn K mainGlobals "ways_from" = some (some (.ref f16))) (l16:K.lookup f16=some ⟨oc16,od16,.func (W.fnOf "ways_from" "ways_from" (rK qY.st) (qW qY.st) (g9 qY.st) .none kV16 dc16 pm16 an16 (.ref g) ct16),sl16⟩) (c16:W.codeIn K (.ref g) "ways_from" = true) (k16:W.keepIn K (.ref f16)=true) (lw16:K.lookup g=some ⟨ow16,ox16,.fields vw16,sw16⟩) (hw16:vw16[11]?=some (.ref C)) (nt16:K.lookup C=none) (hrec16:∃d,(recsOf q).find? (λe=>e.name==("ways_from" : Str))=some d)
  (a17:Fr K C6 f17)
  (a18:Fr K zY f18)
  (a19:Fr K vI f19)
  (a20:Fr K xq f20)
  (a21:W.nsIn K mainGlobals "parts" = some (some (.ref f21))) (l21:K.lookup f21=some ⟨oc21,od21,.func (W.fnOf "parts" "parts" (rK sA.st) (qW sA.st) (g9 sA.st) .none kV21 dc21 pm21 an21 (.ref b) ct21),sl21⟩) (c21:W.codeIn K (.ref b) "parts" = true) (k21:W.keepIn K (.ref f21)=true) (lw21:K.lookup b=some ⟨ow21,ox21,.fields vw21,sw21⟩) (hw21:vw21[11]?=some (.ref B)) (nt21:K.lookup B=none) (hrec21:∃d,(recsOf q).find? (λe=>e.name==("parts" : Str))=some d)
  (a22:Fr K wy f22)
  (a23:Fr K sZ f23)
  (a24:Fr K u3 f24)
  (a25:Fr K uY f25)
  (a26:Fr K AK f26)
  (a27:W.nsIn K mainGlobals "least" = some (some (.ref f27))) (l27:K.lookup f27=some ⟨oc27,od27,.func (W.fnOf "least" "least" (rK sx.st) (qW sx.st) (g9 sx.st) .none kV27 dc27 pm27 an27 (.ref a) ct27),sl27⟩) (c27:W.codeIn K (.ref a) "least" = true) (k27:W.keepIn K (.ref f27)=true) (lw27:K.lookup a=some ⟨ow27,ox27,.fields vw27,sw27⟩) (hw27:vw27[11]?=some (.ref A)) (nt27:K.lookup A=none) (hrec27:∃d,(recsOf q).find? (λe=>e.name==("least" : Str))=some d)
  (a28:Fr K Ai f28)
  (a29:Fr K yK f29)
  (a30:Fr K xI f30)
  (a31:Fr K ul f31)
  (a32:Fr K uo f32)
  (a33:Fr K v_ f33)
  (a34:Fr K za f34)
  (a35:Fr K yZ f35)
  (a36:Fr K sM f36)
  (a37:Fr K yY f37)
  (a38:Fr K wL f38)
  (a39:Fr K wz f39)
  (a40:Fr K ue f40)
  (a41:Fr K uM f41)
  (a42:Fr K uk f42)
  (a43:Fr K CN f43)
  (a44:Fr K Cm f44)
  (a45:Fr K ze f45)
  (a46:Fr K Co f46)
  (a47:Fr K vT f47)
  (a48:Fr K uO f48)
  (a49:Fr K v4 f49)
  (a50:Fr K w9 f50)
  (a51:Fr K AN f51)
  (a52:Fr K wg f52)
  (a53:Fr K uW f53)
  (a54:Fr K uU f54)
  (a55:Fr K Ex f55)
  (a56:Fr K wq f56)
  (a57:Fr K ut f57)
  (a58:Fr K A4 f58)
  (a59:Fr K u5 f59)
  (a60:Fr K uJ f60)
  (a61:Fr K AT f61)
  (a62:Fr K AS f62)
  (a63:Fr K ur f63)
  (a64:Fr K vO f64)
  (a65:Fr K Ax f65)
  (a66:Fr K Dd f66)
  (a67:Fr K wD f67)
  (a68:Fr K sF f68)
  (a69:Fr K uL f69)
  (a70:Fr K zp f70)
  (a71:Fr K yl f71)
  (a72:Fr K tT f72)
  (a73:Fr K zD f73)
  (a74:Fr K ym f74)
  (a75:Fr K DO f75)
  (a76:Fr K F5 f76)
  (a77:Fr K vH f77)
  (a78:Fr K wk f78)
  (a79:Fr K tj f79)
  (a80:Fr K vD f80)
  (a81:Fr K Du f81)
  (a82:Fr K uy f82)
  (a83:Fr K vR f83)
  (a84:Fr K uv f84)
  (a85:Fr K wt f85)
  (a86:Fr K vJ f86)
  (a87:Fr K xK f87)
  (a88:Fr K vE f88)
  (a89:W.nsIn K mainGlobals "law" = some (some (.ref f89))) (l89:K.lookup f89=some ⟨oc89,od89,.func (W.fnOf "law" "law" (rK zi.st) (qW zi.st) (g9 zi.st) .none kV89 dc89 pm89 an89 cd89 ct89),sl89⟩) (c89:W.codeIn K cd89 "law" = true) (k89:W.keepIn K (.ref f89)=true)
  (Th:W.nsIn K mainGlobals "all" = some none)
  (Ru:W.nsIn K mainGlobals "bool" = some none)
  (Ti:W.nsIn K mainGlobals "int" = some none)
  (Eb:W.nsIn K mainGlobals "isinstance" = some none)
  (Tj:W.nsIn K mainGlobals "len" = some none)
  (Rv:W.nsIn K mainGlobals "list" = some none)
  (To:W.nsIn K mainGlobals "max" = some none)
  (Tp:W.nsIn K mainGlobals "min" = some none)
  (OT:W.nsIn K mainGlobals "range" = some none)
  (G1:W.nsIn K mainGlobals "reversed" = some none)
  (Tq:W.nsIn K mainGlobals "set" = some none)
  (MB:W.nsIn K mainGlobals "sorted" = some none)
  (Tr:W.nsIn K mainGlobals "str" = some none)
  (OU:W.nsIn K mainGlobals "tuple" = some none)
  (Ts:W.nsIn K mainGlobals "zip" = some none)
  (Y:W.nsIn K mainGlobals "ALARM" = some (some (.int 2 Mc)))
  (U:W.nsIn K mainGlobals "BLOCK" = some (some (.int 1000000000000000000 Me)))
  (T:W.nsIn K mainGlobals "CLOCK" = some (some (.int 1 Mf)))
  (S:W.nsIn K mainGlobals "COUNT" = some (some (.int 4 Mg)))
  (q_DAY:W.nsIn K mainGlobals "DAY" = some (some (.int 86400 Rt)))
  (Q:W.nsIn K mainGlobals "DEEDS" = some (some (.ref Bp))) (M:K.lookup Bp=some ⟨.type "tuple",none,.seq #[.str (oS "none") Mj,.str (oS "hour") Mk,.str (oS "minute") Ml,.str (oS "zero") Mm,.str (oS "ahour") Mn,.str (oS "aminute") Mo,.str (oS "alarm") Mp,.str (oS "run") Mq,.str (oS "lap") Mr,.str (oS "cminute") Ms,.str (oS "csecond") JA,.str (oS "full") JB,.str (oS "count") JC] Mh,Mi⟩)
  (O:W.nsIn K mainGlobals "FACES" = some (some (.ref Bq))) (L:K.lookup Bq=some ⟨.type "tuple",none,.seq #[.str (oS "time") Mv,.str (oS "alarm") Mw,.str (oS "laps") Mx,.str (oS "count") Mz] Mt,Mu⟩)
  (x:W.nsIn K mainGlobals "FULL_RING" = some (some (.int 10 D7)))
  (q_HELD:W.nsIn K mainGlobals "HELD" = some (some (.int 6 OM)))
  (q_IDLE:W.nsIn K mainGlobals "IDLE" = some (some (.int 7 ON)))
  (q_LAPS:W.nsIn K mainGlobals "LAPS" = some (some (.int 3 OO)))
  (q_MODE:W.nsIn K mainGlobals "MODE" = some (some (.int 0 OP)))
  (u:W.nsIn K mainGlobals "MOST_BACK" = some (some (.int 60 D9)))
  (p:W.nsIn K mainGlobals "MOST_HOLD" = some (some (.int 9 D_)))
  (n:W.nsIn K mainGlobals "MOST_KEPT" = some (some (.int 4 Ea)))
  (j:W.nsIn K mainGlobals "MOST_MODES" = some (some (.int 8 BZ)))
  (H:W.nsIn K mainGlobals "PRESSES" = some (some (.ref xN))) (F:K.lookup xN=some ⟨.type "tuple",none,.seq #[.str (oS "a") GS,.str (oS "b") GT,.str (oS "c") GU,.str (oS "A") GV,.str (oS "B") GW,.str (oS "C") GX] GQ,GR⟩)
  (q_RING:W.nsIn K mainGlobals "RING" = some (some (.int 5 OQ)))
  (k:W.nsIn K mainGlobals "FACE_TEXTS" = some (some (.ref u7)))
  (i:K.lookup u7=some ⟨.type "dict",none,.dict (entries w [(oS "time",Br,.ref f70),(oS "alarm",Bs,.ref f71),(oS "laps",Bt,.ref f73),(oS "count",Bu,.ref f74)]).toArray B0,#[]⟩)
  (N:W.nsIn K mainGlobals "STEPS" = some (some (.ref Bv)))
  (J:K.lookup Bv=some ⟨.type "dict",none,.dict (entries w [(oS "none",JD,.ref f43),(oS "hour",JE,.ref f44),(oS "minute",JF,.ref f45),(oS "zero",JG,.ref f46),(oS "ahour",JH,.ref f47),(oS "aminute",JI,.ref f48),(oS "alarm",JJ,.ref f49),(oS "run",JK,.ref f50),(oS "lap",JL,.ref f51),(oS "cminute",JM,.ref f53),(oS "csecond",GY,.ref f54),(oS "full",GZ,.ref f55),(oS "count",G0,.ref f56)]).toArray MA,#[]⟩)
  (hnd:List.Nodup [C,B,A]) :
  ∃(E:List rf) (fd:W_),(∀t∈E,K.lookup t.P=none/\∃y d,(recsOf q).find? (λe=>e.name==y)=some d/\W.tabIn K y=some (t.c,t.P))/\(∀(s:V7) (v:V5),BindsTo s fd ⟨[v],[]⟩ [("_law_script",v)])/\∀base:WK,K.In base->base.Ns mainGlobals mg->rL mg E base->rM l.prog w K mg base vq 11 fa fd ["_law_script"] (J1 K iA E):=by
 have e:=hfa.symm.trans (Xo X G a89);cases e;obtain⟨d14,F14,a14⟩:=TQ a14;have b14:=F14.binds (ps:=["ways","newest","nexts_of"]) λ| _,_,_,_,_,_,[_,_,_],_=>rfl
 have g14:=Xo X G a14;have F16:GD K "ways_from" "ways_from" qY.st _ _ g:=⟨⟨_,_,_,_,_,_,_,_,rfl,l16,c16⟩,k16⟩
 have g16:=Xo X G a16;have tb16:=jo a16 l16 rfl lw16 hw16;have b16:=Binds.all (K:=K) (fd:=W.fnOf "ways_from" "ways_from" (rK qY.st) (qW qY.st) (g9 qY.st) .none kV16 dc16 pm16 an16 (.ref g) ct16) (ps:=["book","mode"]) λus hl=>by obtain⟨x0,x1,rfl⟩:=ln2 (us:=us) hl;rfl
 have F21:GD K "parts" "parts" sA.st _ _ b:=⟨⟨_,_,_,_,_,_,_,_,rfl,l21,c21⟩,k21⟩
 have g21:=Xo X G a21;have tb21:=jo a21 l21 rfl lw21 hw21;have b21:=Binds.all (K:=K) (fd:=W.fnOf "parts" "parts" (rK sA.st) (qW sA.st) (g9 sA.st) .none kV21 dc21 pm21 an21 (.ref b) ct21) (ps:=["one","other"]) λus hl=>by obtain⟨x0,x1,rfl⟩:=ln2 (us:=us) hl;rfl
 have F27:GD K "least" "least" sx.st _ _ a:=⟨⟨_,_,_,_,_,_,_,_,rfl,l27,c27⟩,k27⟩
 have g27:=Xo X G a27;have tb27:=jo a27 l27 rfl lw27 hw27;have b27:=Binds.all (K:=K) (fd:=W.fnOf "least" "least" (rK sx.st) (qW sx.st) (g9 sx.st) .none kV27 dc27 pm27 an27 (.ref a) ct27) (ps:=["book"]) λus hl=>by obtain⟨x0,rfl⟩:=U5 (us:=us) hl;rfl
 have F89:=lC (st:=zi.st) l89 c89 k89;have sP:NN K mg "PRESSES" bB:=⟨xN,_,_,_,Xo X G H,F,.cons ⟨_,rfl⟩ (.cons ⟨_,rfl⟩ (.cons ⟨_,rfl⟩ (.cons ⟨_,rfl⟩ (.cons ⟨_,rfl⟩ (.cons ⟨_,rfl⟩ .nil)))))⟩
 have z:Bz K mg:=⟨W.mg_none_of X G Th,W.mg_none_of X G Ru,W.mg_none_of X G Ti,W.mg_none_of X G Eb,W.mg_none_of X G Tj,W.mg_none_of X G Rv,W.mg_none_of X G To,W.mg_none_of X G Tp,W.mg_none_of X G OT,W.mg_none_of X G G1,W.mg_none_of X G Tq,W.mg_none_of X G MB,W.mg_none_of X G Tr,W.mg_none_of X G OU,W.mg_none_of X G Ts,Ga X G Y,Ga X G U,Ga X G T,Ga X G S,Ga X G q_DAY,Up (ws:=[oS "none",oS "hour",oS "minute",oS "zero",oS "ahour",oS "aminute",oS "alarm",oS "run",oS "lap",oS "cminute",oS "csecond",oS "full",oS "count"]) ⟨Bp,_,_,_,Xo X G Q,M,.cons ⟨_,rfl⟩ (.cons ⟨_,rfl⟩ (.cons ⟨_,rfl⟩ (.cons ⟨_,rfl⟩ (.cons ⟨_,rfl⟩ (.cons ⟨_,rfl⟩ (.cons ⟨_,rfl⟩ (.cons ⟨_,rfl⟩ (.cons ⟨_,rfl⟩ (.cons ⟨_,rfl⟩ (.cons ⟨_,rfl⟩ (.cons ⟨_,rfl⟩ (.cons ⟨_,rfl⟩ .nil))))))))))))⟩,Up (ws:=[oS "time",oS "alarm",oS "laps",oS "count"]) ⟨Bq,_,_,_,Xo X G O,L,.cons ⟨_,rfl⟩ (.cons ⟨_,rfl⟩ (.cons ⟨_,rfl⟩ (.cons ⟨_,rfl⟩ .nil)))⟩,Ga X G x,Ga X G q_HELD,Ga X G q_IDLE,Ga X G q_LAPS,Ga X G q_MODE,Ga X G u,Ga X G p,Ga X G n,Ga X G j,Up sP,Ga X G q_RING,sP⟩
 have m:=Xo X G k;have D_STEPS:=Xo X G N;obtain⟨dr16,hdr16⟩:=hrec16;obtain⟨dr21,hdr21⟩:=hrec21;obtain⟨dr27,hdr27⟩:=hrec27;obtain⟨E,Z⟩:∃E:List rf,E=[⟨g,C,"ways_from.<locals>.<lambda>"⟩,⟨b,B,"parts.<locals>.<lambda>"⟩,⟨a,A,"least.<locals>.<lambda>"⟩]:=⟨_,rfl⟩
 have ht16:(⟨g,C,"ways_from.<locals>.<lambda>"⟩:rf)∈E:=by rw[Z];exact .head _
 have ht21:(⟨b,B,"parts.<locals>.<lambda>"⟩:rf)∈E:=by rw[Z];exact .tail _ (.head _)
 have ht27:(⟨a,A,"least.<locals>.<lambda>"⟩:rf)∈E:=by rw[Z];exact .tail _ (.tail _ (.head _))
 have hall:∀t∈E,K.lookup t.P=none/\∃y d,(recsOf q).find? (λe=>e.name==y)=some d/\W.tabIn K y=some (t.c,t.P):=by
  rw[Z];intro t ht;rcases Wo.mp ht with rfl | ht
  ·exact⟨nt16,"ways_from",dr16,hdr16,tb16⟩
  rcases Wo.mp ht with rfl | ht
  ·exact⟨nt21,"parts",dr21,hdr21,tb21⟩
  rcases Wo.mp ht with rfl | ht
  ·exact⟨nt27,"least",dr27,hdr27,tb27⟩
  cases ht
 have hnd2:(E.map (·.P)).Nodup:=by rw[Z];exact hnd
 refine⟨E,W.fnOf "law" "law" (rK zi.st) (qW zi.st) (g9 zi.st) .none kV89 dc89 pm89 an89 cd89 ct89,hall,λs v=>.of_eq rfl,λbase _ _ TB=>?_⟩;have c4 {r f}:=@Vv K mg h X G l.prog w base r f;have o:=@VP ⟨l.prog,w,K,mg,base⟩ E z;have G2:=c4 a0 o.ej;have JN:=c4 a1 (o.em G2);have zE:=c4 a2 (o.et JN);have t5:=c4 a3 o.ew;have G3:=c4 a4 o.ez;have zF:=c4 a5 o.eP;have MC:=c4 a6 (o.fm zF t5 zE);have G4:=c4 a7 (o.fx MC t5);have JO:=c4 a8 (o.fy G4 zF G3 t5);have FI:=c4 a9 (o.gg JO);have JP:=c4 a10 (o.g8 FI t5 zE);have Ec:=c4 a11 o.hH;have Ed:=c4 a12 (o.hJ Ec);have vC:=c4 a13 (o.h9 Ec)
 have LO:U8 l.prog w K mg base 3 LL:=λt G e=>by
  unfold LL at e;split at e
  ·rename_i z
   subst z;cases e;exact o.ab Ec
  split at e
  ·rename_i z
   subst z;cases e;exact o.bt Ed
  split at e
  ·rename_i z
   subst z;cases e;exact o.cp vC
  ·cases e
 have Bw:Ri l.prog w K mg base 4 "one_press_on" ["ways","newest","nexts_of"] ae:=⟨_,_,eE (q:=⟨l.prog,w,K,mg,base⟩) z LO F14,g14,F14.kp,b14⟩
 have vS:=c4 a15 (o.d2 Bw);have FJ:Ct ⟨l.prog,w,K,mg,base⟩ E qY:=⟨_,_,o.ea vS ht16 rfl (TB.one ht16) F16,g16,F16.kp,b16⟩
 have OV:=Vb X G a17 (o.il FJ);have Io:=c4 a18 o.iw;have Bx:=c4 a19 o.i0;have G6:=c4 a20 (o.j0 Bx Io);have OW:Ct ⟨l.prog,w,K,mg,base⟩ E sA:=⟨_,_,o.ee vS G6 ht21 rfl (TB.one ht21) F21,g21,F21.kp,b21⟩
 have FK:=Vb X G a22 (o.j1 OW);have wB:=c4 a23 o.kb;have B3:=c4 a24 (o.kd wB vC);have B4:=c4 a25 (o.ke Bx wB Io B3);have MD:=c4 a26 o.kf;have OX:Ct ⟨l.prog,w,K,mg,base⟩ E sx:=⟨_,_,o.eh B4 vS MD ht27 rfl (TB.one ht27) F27,g27,F27.kp,b27⟩
 have Iq:=c4 a28 o.k0;have JQ:=c4 a29 o.la;have G7:=c4 a30 o.lb;have yr:=c4 a31 o.l0;have yt:=c4 a32 o.mo;have FL:=c4 a33 (o.mu yr yt);have JR:=c4 a34 (o.nl FL);have JS:=c4 a35 o.nC;have vX:=c4 a36 o.nP;have JT:=c4 a37 (o.n7 vX);have C2:=c4 a38 (o.oi G7 JS JT JQ JR);have FM:=c4 a39 o.ot;have zO:=c4 a40 o.ov;have zG:=c4 a41 (o.oA FM vX zO);have I:=c4 a42 o.oB;have JU:=c4 a43 o.oR;have JV:=c4 a44 (o.oT I);have FN:=c4 a45 (o.o3 I);have JW:=c4 a46 (o.o7 I);have zQ:=c4 a47 (o.o8 I);have yu:=c4 a48 (o.pa I);have By:=c4 a49 (o.po I);have B5:=c4 a50 (o.pp I);have G8:=c4 a51 (o.pu I);have BA:=c4 a52 (o.py I);have yw:=c4 a53 (o.qc BA);have yy:=c4 a54 (o.q0 BA);have ME:=c4 a55 (o.q7 BA);have BB:=c4 a56 (o.rz I);have OY:Eo l.prog w K mg base 3 "STEPS" wU:=⟨Bv,_,D_STEPS,λh X=>iQ _ J (show List.Nodup [oS "none",oS "hour",oS "minute",oS "zero",oS "ahour",oS "aminute",oS "alarm",oS "run",oS "lap",oS "cminute",oS "csecond",oS "full",oS "count"] from by decide +kernel) h X,(.cons (EF X G a43 JU) (.cons (EF X G a44 JV) (.cons (EF X G a45 FN) (.cons (EF X G a46 JW) (.cons (EF X G a47 zQ) (.cons (EF X G a48 yu) (.cons (EF X G a49 By) (.cons (EF X G a50 B5) (.cons (EF X G a51 G8) (.cons (EF X G a53 yw) (.cons (EF X G a54 yy) (.cons (EF X G a55 ME) (.cons (EF X G a56 BB) .nil)))))))))))))⟩
 have yz:=c4 a57 (o.r8 I OY);have MF:=c4 a58 (o.sb yz I);have B6:=c4 a59 (o.sg C2 zG MF);have zH:=c4 a60 (o.sq B6 zG);have MG:=c4 a61 (o.ss C2 zH);have MH:=c4 a62 (o.sK I);have yA:=c4 a63 o.sS;have BC:=c4 a64 (o.sT yA);have MI:=c4 a65 (o.tp yA BC yz I);have MJ:=c4 a66 (o.tz MI MH MG);have C3:=c4 a67 o.t0;have u9:=c4 a68 (o.t3 C3);have zI:=c4 a69 (o.ub u9);have FO:=c4 a70 (o.uX zI u9);have Ee:=c4 a71 (o.u1 zI);have xh:=c4 a72 (o.u8 C3 u9);have FP:=c4 a73 (o.vb xh);have Ef:=c4 a74 (o.vl xh);have Eg:Eo l.prog w K mg base 4 "FACE_TEXTS" ti:=⟨u7,_,m,λh X=>iQ _ i (show List.Nodup [oS "time",oS "alarm",oS "laps",oS "count"] from by decide +kernel) h X,(.cons (EF X G a70 FO) (.cons (EF X G a71 Ee) (.cons (EF X G a73 FP) (.cons (EF X G a74 Ef) .nil))))⟩
 have OZ:=c4 a75 (o.v0 Eg);have Rw:=c4 a76 (o.wb Iq MJ OZ);have Eh:=c4 a77 (o.wh yr yt);have FQ:=c4 a78 o.wv;have yB:=c4 a79 (o.wE Eh zH FQ);have Ei:=c4 a80 (o.wP BC yB);have O0:=c4 a81 (o.wS Iq MJ Ei);have BD:=c4 a82 o.wT;have Ej:=c4 a83 (o.xc BD);have yC:=c4 a84 o.xf;have FR:=c4 a85 (o.xm yC);have Ek:=c4 a86 o.xn;have G9:=c4 a87 (o.xr yC Ek);have El:=c4 a88 o.xw;exact Oy hnd2 (o.xz FR El Ej G9 FK JP OX OV Rw O0 _ _ F89)
def walk {l:W.OpenLaw} {q:Wr} {b:List Str} {E:(Str->V3 V5)->WK->Prop} {j:WC->WK->Prop} {d:DefRec} {K:Params->Wb} (p:l.most=some 63) (hdf:d.params.defaults=[])
    (A:∀(w:WC) (h:WK),j w h->(K w.params).In h)
    (F:∀(w:WC) (mg:Str->V3 V5) (fa:V_) (h:WK),(K w.params).In h->h.Ns mainGlobals mg->mg d.name=some (.ref fa) ->
      ∃(g:List rf) (fd:W_),(∀t∈g,(K w.params).lookup t.P=none/\∃y d',(recsOf q).find? (λe=>e.name==y)=some d'/\W.tabIn (K w.params) y=some (t.c,t.P))/\(∀(s:V7) (u:V5),BindsTo s fd ⟨[u],[]⟩ [("_law_script",u)])/\∀base:WK,(K w.params).In base->base.Ns mainGlobals mg->rL mg g base->rM l.prog w (K w.params) mg base vq 11 fa fd ["_law_script"] (J1 (K w.params) iA g)) :
    W.WalkO q b E j l.row.toRowW d [] (λf m=>PySem.call f m):=
  KL (n:=63) (k:=11) (x:="_law_script") (CX:=λ_=>vq) (sp:=λw g=>J1 (K w.params) iA g) p (by decide) hdf ⟨rfl,by decide,by decide,rfl⟩ A F (λw g H a i r hO C B=>Oh hO C ⟨[.fro (i.map .int)],.bl true,g7.one ⟨a,i.map V.int,rfl,B,CF _ _ i⟩,KG i r,λv G _ o=>o⟩) λ_ _ _ _ _ z=>z
end HW
structure PySem.W.Fast:Prop where
 (tw10430451186781291968 tw15550867396567771396 tw10613431219294897413 tw18379595919165240775 tw16081456153466441960 tw10987047563336692712 tw8162674570036671532 tw7867030104394548781 tw3893762447440878990 tw660748927854346479 tw8227286070877930705 tw6436711541173231281 tw1293997420494365622 tw8968664506315157462 tw12270062620977536408 tw14715110384678690232 tw10151797024398972473 tw15454268192408882458 tw15397103219514873306 tw10361645595213376475 tw2787862735942167356 tw10957519127379214173 tw15212728515664984223 tw4688790103008157887 tw13879077815363728435 tw1630781012286331754 tw12554838784278458044 tw12893770133866201817 tw2686206624641676386 tw8728492110743772604 tw515470633268456134 tw5132192063305421171 tw13746418559863966845 tw5418198053165450005 tw12879630355057936355 tw3604446859727178736 tw12428947679600211428 tw10098590308422435758 tw10661916109680126138 tw13532791702868330829 tw1665524246596099091 tw14288504812384118418 tw14999693369431572019 tw9152408967846407163 tw8862249432713881174 tw17734477862390554312 tw14272508845052685482 tw12196095634509787080 tw17329379328681386432 tw4793106964927864102 tw18156359299267884965 tw7328328218408523285 tw14569725879093776068 tw3752480197951153405 tw15442196260806251289 tw7350346849130593221 tw6487626868321643845 tw7281168744293158722 tw11073727571816352982 tw1477433387152624344 tw5342788083676850571 tw9017690742803597389 tw16828067443212789922 tw14934284341637509346 tw16405500557559667143 tw23292429983455729 tw3507703192449532641 tw16733994902523372241 tw2852664406353545074 tw15718946267272680703 tw2941015905893490704 tw8796914915548454964 tw8999232252089744663 tw16390942281813823455 tw9290252914353899263 tw17517995487818573302 tw17987490027699367417 tw8152060522505547333 tw2377288143823079341 tw11552676875832999496 tw812337674199647233 tw8797778709817517793 tw2153688324966759292 tw5441981149969651040 tw17714278703751369790 tw636196929853189478 tw1531715534869226645 tw17269475487363982735 tw8329908763844796611 tw10806619131279694967 tw3844864963157512492 tw16807522732243812964 tw4658594823477308072 tw4342389243538506861 tw8674546042712932080 tw14254533683310518868 tw5317164792849734763 tw7113243159488668435 tw10579328075078144 tw13867861283180190529 tw16097586883984615850 tw16391479182718287117 tw14629798498305183477 tw13127291415779322873 tw10938820824223491001 tw1008282862033915827 tw5380196934445339853 tw7636794994651571100 tw7731694170066077325 tw4223813558177870428 tw14824553928357155170 tw7468090904752824028 tw11737990093620357576 tw3720899956550484718 tw4988245634898210315 tw16190473526565205392 tw4607146871864894557 tw1639639835683913762 tw9234117996346950561 tw17425272020942753463 tw789820865254749257 tw3987408709084354179 tw10890259177510713641 tw9350002425124470465 tw1222033660632525447 tw4533422990623882701 tw18104543354387545402 tw16738885001515682501 tw1981126433403168628 tw11762058595887938465 tw11328208971112535690 tw12383511084724999760 tw10320155489281211989 tw7843346110892708015 tw14261919664387499124 tw16971262729231965146 tw17735202398171519890 tw11009349560172760493 tw14249536549834965716 tw7952017399646670852 tw3698674236656553895 tw17010736824152954193 tw12046525977792435049 tw9935048332036376820 tw11324611631940241749 tw10464415935797594530 tw16507957570419673450 tw10350835575402919992 tw6985714416786606358 tw7207367299258787642 tw417721468409364578 tw5772854104578096079 tw7863170754283439367 tw6352266925930580929 tw12762837412035622351 tw9136239632742804456 tw9787836720551487122 tw13763881608615105180 tw9444973563658041150 tw17356950011275400115 tw11483021488587193006 tw13087227100042316600 tw812876821764532049 tw10938333215624804878 tw11123914588703695268 tw1994249725802502323 tw13154251581926753990 tw2791034082141013421 tw15063476098865419223 tw1069808298964658925 tw5718901763477821177 tw11395696005423368629 tw6463178338342930334 tw5107795549968286470 tw15251088803519580462 tw4127511691927035324 tw16919693087508146687 tw13193656478904663903 tw16543773204013312591 tw6923599738243636647 tw8287696398237856962 tw8369421070095829538 tw5157746797343764568 tw8991549406522978106 tw17484248665719386684 tw11509948035410506905 tw13478836375106632348 tw4739579876733925937 tw5498115442064926096 tw15079734258184476481 tw6550221244148543557 tw8223582826587502775 tw9605874502878294083 tw1329653413571520669 tw9845052239526475250 tw8173082501769869448 tw8569747395680559052 tw16599353576189160672 tw5625605372365957811 tw2511513378133157156 tw3943200406736552924 tw16967021242005717007 tw8985977267499811948 tw14747569393131917270 tw3235648026930891249 tw2754761959729917792 tw11426888664083950400 tw7897869864972472091 tw8549636243242868353 tw2161295561801396263 tw2730954218247521769 tw1156294961256547119 tw17633281738583167650 tw11860229390590574042 tw2569697282894189837 tw8621012276803611101 tw7973674766483868434 tw3563260816624185575 tw4315183248720516590 tw10040965336152212439 tw735573369713544013 tw2264360614588660020 tw5964695787957332126 tw3693359606745303627 tw7908331177333852854 tw10449432051039764496 tw12418223361792557106 tw9211071234789008367 tw10032623910822336203 tw9133469109933539697 tw14579328230878906895 tw14420835576255452081 tw13454552732378857881 tw709834585725760697 tw13597374360422303028 tw17069596428546473859 tw11661553546738940572 tw3231543194356869109 tw7640634718531353350 tw2781281164237058954 tw11431334985281771540 tw9865890000434981358 tw4748265920218801820 tw502468631503245352 tw1772258767663128619 tw13253641016586787692 tw13870705323995908221 tw12319877079043750990 tw18173023736641779924 tw8527609956103120713 tw11613332903869070542 tw12619120321712024936 tw15652795187592453833 tw12582795339359718446 tw16993512911572675132 tw6861274575169644134 tw11215162042004465732 tw9691204040827857393 tw12224564078792123706 tw18392748862176271539 tw15561444113195719528 tw799934773438734417 tw2256136836850709095 tw4896926149073628364 tw12966607888678016556 tw17446732451779500659 tw13517984095316147025 tw11671153617462765430 tw16069672015207283344 tw9555333649989144117 tw1232036575237169603 tw6340351820263725864 tw6930583564802806373 tw7384830969178661020 tw1555858850879973949 tw1295833799191817433 tw1375644603477727988 tw14043738115005318591 tw12818417651477181831 tw12760889333002733513 tw15170390363290276390 tw10351918545240950857 tw9075411554983891521 tw699467765843425652 tw13985035298587270718 tw4322287450822530122 tw3338677498939204585 tw10094949635359725300 tw3328656267318167691:True)
namespace PySem.W.Fast
noncomputable def tw5099419852150112676:=PySem.Challenge.pw_handwatch_k53_whole_least
def te5099419852150112676:PySem.Challenge.pw_handwatch_k53_whole_least=tw5099419852150112676:=rfl
end PySem.W.Fast
open PySem PySem.W PyProof.Rows
set_option maxRecDepth 100000 in
set_option maxHeartbeats 0 in
theorem PySem.Challenge.cw_handwatch_k53_whole_least_holds : PySem.Challenge.rw_handwatch_k53_whole_least.Holds := by
 w_on;o_law;k_head;(case hw=>w_witness2)
 k_fill
 refine HW.walk (l:=PySem.Challenge.rw_handwatch_k53_whole_least) rfl rfl (fun w h Y=>PySem.W.km_in_of Y) ?F
 case F =>
  intro w mg fa h b G a
  refine' HW.all_mk b G a ?_ ?_ ?_ ?_ ?_ ?_ ?_ ?_ ?_ ?_ ?_ ?_ ?_ ?_ ?_ ?_ ?_ ?_ ?_ ?_ ?_ ?_ ?_ ?_ ?_ ?_ ?_ ?_ ?_ ?_ ?_ ?_ ?_ ?_ ?_ ?_ ?_ ?_ ?_ ?_ ?_ ?_ ?_ ?_ ?_ ?_ ?_ ?_ ?_ ?_ ?_ ?_ ?_ ?_ ?_ ?_ ?_ ?_ ?_ ?_ ?_ ?_ ?_ ?_ ?_ ?_ ?_ ?_ ?_ ?_ ?_ ?_ ?_ ?_ ?_ ?_ ?_ ?_ ?_ ?_ ?_ ?_ ?_ ?_ ?_ ?_ ?_ ?_ ?_ ?_ ?_ ?_ ?_ ?_ ?_ ?_ ?_ ?_ ?_ ?_ ?_ ?_ ?_ ?_ ?_ ?_ ?_ ?_ ?_ ?_ ?_ ?_ ?_ ?_ ?_ ?_ ?_ ?_ ?_ ?_ ?_ ?_ ?_ ?_ ?_ ?_ ?_ ?_ ?_ ?_ ?_ ?_ ?_ ?_ ?_ ?_ ?_ ?_ ?_ ?_ ?_ ?_ ?_ ?_ ?_ ?_ ?_ ?_ ?_ ?_ ?_ ?_ ?_ ?_ ?_
  all_goals try first | k_is | (refine' HW.fn4_mk ?_ ?_ ?_ ?_<;>try k_is) | rfl | kernel_rfl | exact⟨_,rfl⟩ | decide
