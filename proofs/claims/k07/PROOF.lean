import PyProof.Rows.All
import Wide.All
import OpenK.AllK
import Wide.FinOn
import Lean
import PyProof.EqAt
import PyProof.EqKinds
import PyProof.TupleCall
import PyProof.AttrMissHeap
import PySem.Challenge.RW_sealchain_k07_rows_told
set_option Elab.async false
set_option linter.all false
set_option maxRecDepth 100000
set_option bootstrap.genMatcherCode false
set_option compiler.extract_closed false
set_option maxHeartbeats 40000000
def mY {α:Type _}{a:α}(l:List α){k:List α}(h:a∈k):a∈l++k:=List.mem_append_right l h
def mZ {α:Type _}(b:α){a:α}{l:List α}(h:a∈l):a∈b::l:=List.mem_cons_of_mem b h
def mX {α:Type _}{a:α}{l:List α}:a∈a::l:=List.mem_cons_self
def oX {α G:Type _}{o:Option α}{f:α->Option G}{b:G}(h:o.bind f=some b):∃a,o=some a/\f a=some b:=Option.bind_eq_some_iff.mp h
def oY {α G:Type _}{f:α->G}{o:Option α}{b:G}(h:o.map f=some b):∃a,o=some a/\f a=b:=Option.map_eq_some_iff.mp h
def wX:=@PySem.wpAny_bind
def wY:=@PySem.wpAny_pure
def vZ:=@PySem.Heap.get?_push_of_some
def vY:=@PySem.Heap.get?_push_size
def vX:=@PySem.Heap.lt_size
def vV {α:Type _}{l:List α}{i:Nat}{a:α}(h:l[i]? = some a):∃h:i<l.length,l[i]=a:=List.getElem?_eq_some_iff.mp h
def vT (n:Nat):n<=n:=Nat.le_refl n
def vS {a b:Nat}(h:a<b):a≠b:=Nat.ne_of_lt h
def vR {n m k:Nat}:n<=m->m<=k->n<=k:=Nat.le_trans
def vQ {n m k:Nat}:n<m->m<=k->n<k:=Nat.lt_of_lt_of_le
def vK {α:Type _}{a b:α}(h:some a=some b):a=b:=Option.some.inj h
def vJ {α G:Type _}(a:α)(f:α->Option G):(some a).bind f=f a:=rfl
def vI {α M:Type _}{G:List α}(f:α->M):(G.map f).length=G.length:=List.length_map f
def vH {α:Type _}{l:List α}:l.toArray.size=l.length:=rfl
def vE {α:Type _}{a:α}{G:List α}:(a::G).length=G.length+1:=rfl
def vD (a b:Bool):((a && b)=true)=(a=true/\b=true):=Bool.and_eq_true a b
def vC {α:Type _}{i j:Nat}{a:α}{l:List α}(h:i≠j):(l.set i a)[j]? = l[j]?:=List.getElem?_set_ne h
def vB {α G:Type _}{f:α->G}{l:List α}{i:Nat}:(l.map f)[i]? = Option.map f l[i]?:=List.getElem?_map
def vA {α:Type _}{G bs:List α}:(G++bs).length=G.length+bs.length:=List.length_append
def uY:false≠true:=Bool.false_ne_true
def uU {α:Type _}{a b:α}(h:a∈[b]):a=b:=List.mem_singleton.mp h
def uS {α:Type _}{l:List α}{p:α->Bool}(h:l.all p=true):∀x∈l,p x=true:=List.all_eq_true.mp h
noncomputable section
open PySem.W (Frag kia_one fnOf nsIn mg_of)
open List (mem_range mem_cons mem_append mem_filterMap append_nil nodup_cons of_mem_zip length_take getElem?_replicate getElem?_append_left mem_of_getElem? length_replicate length_drop length_set all_cons any_cons replicate_succ flatten_cons append_assoc length_singleton map_nil map_cons find?_cons forIn_cons lookup_cons mem_map not_mem_nil all_map length_range mem_singleton lookup_cons_self zip_cons_cons nil_append cons_ne_nil map_map all_eq_true map_take map_drop map_id' drop_zero take_of_length_le getElem?_eq_getElem mem_of_mem_take)
open Nat (lt_irrefl le_of_lt ne_of_gt zero_le not_lt le_add_right)
open Option (isSome_iff_exists getD_none map_some)
abbrev QV:=PySem.Value->PySem.Shared->Prop
abbrev AO:=List (PySem.Addr×PySem.Obj)
abbrev SV:=PySem.Str->Option PySem.Value
abbrev LU:=List PySem.Value
abbrev AV:=Array PySem.Value
abbrev LS:=List PySem.Str
abbrev QD:=List PySem.Expr
abbrev LN:=List Nat
abbrev LI:=List Int
abbrev OI:=Option Int
namespace L2
open PySem PySem.Spec PyProof.Rows
abbrev dh:=Sum Int Str
noncomputable def kq:dh->Value->Bool
 |.inl k,v=>Value.isInt k v
 |.inr x,v=>Value.isStrOf x v
noncomputable def BI (w:World):dh->Int
 |.inl k=>hashInt k
 |.inr x=>hashStr w x
theorem bW:∀ {k:dh}{v:Value},kq k v=true->(∃i t,k=Sum.inl i/\v=Value.int i t)∨(∃x t,k=Sum.inr x/\v=Value.str x t)
 |.inl i,v,h=>by
  obtain⟨t,e⟩:=Value.isInt_shape (k:=i) (v:=v) h;exact .inl ⟨i,t,rfl,e⟩
 |.inr x,v,h=>by
  obtain⟨t,e⟩:=Value.isStrOf_shape (x:=x) (v:=v) h;exact .inr ⟨x,t,rfl,e⟩
def qf (i:Int)(t:Tok):kq (.inl i) (.int i t)=true:=by simp[kq,Value.isInt]
def qg (x:Str)(t:Tok):kq (.inr x) (.str x t)=true:=by simp[kq,Value.isStrOf]
def wF (a b:Int):decide ((Sum.inl a:dh)=Sum.inl b)=(a == b):=by
 by_cases e:a=b
 ·subst e;simp
 ·have h:¬(Sum.inl a:dh)=Sum.inl b:=λq=>e (Sum.inl.inj q);rw[decide_eq_false h];exact(beq_eq_false_iff_ne.mpr e).symm
def wG (a b:Str):decide ((Sum.inr a:dh)=Sum.inr b)=decide (a=b):=by
 by_cases e:a=b
 ·subst e;simp
 ·have h:¬(Sum.inr a:dh)=Sum.inr b:=λq=>e (Sum.inr.inj q);rw[decide_eq_false h,decide_eq_false e]
def wH (a:Int)(b:Str):decide ((Sum.inl a:dh)=Sum.inr b)=false:=decide_eq_false (λq=>nomatch q)
def wI (a:Str)(b:Int):decide ((Sum.inr a:dh)=Sum.inl b)=false:=decide_eq_false (λq=>nomatch q)
def cj (prog:Program)(w:World):PySem.KeyKind prog w dh where
 is:=kq
 hash:=BI w
 inj:=λv a b ha hb=>by
  rcases bW ha with⟨i,t,rfl,rfl⟩|⟨x,t,rfl,rfl⟩
  ·rcases bW hb with⟨j,u,rfl,e⟩|⟨y,u,rfl,e⟩
   ·injection e with G _;rw[G]
   ·exact nomatch e
  ·rcases bW hb with⟨j,u,rfl,e⟩|⟨y,u,rfl,e⟩
   ·exact nomatch e
   ·injection e with G _;rw[G]
 byValue:=λk v h=>by
  rcases bW h with⟨i,t,rfl,rfl⟩|⟨x,t,rfl,rfl⟩<;>rfl
 pyHash:=λM h=>by
  rcases bW M with⟨i,t,rfl,rfl⟩|⟨x,t,rfl,rfl⟩
  ·exact wpAny_pyHash_int h
  ·exact wpAny_pyHash_str h
 eqBool:=λhu M h=>by
  rcases bW hu with⟨i,t,rfl,rfl⟩|⟨x,t,rfl,rfl⟩
  ·rcases bW M with⟨j,u,rfl,rfl⟩|⟨y,u,rfl,rfl⟩
   ·rw[wF]at h;exact wpAny_eqBool_int h
   ·rw[wH]at h;exact SeqAt.EqAt.int_str i t y u _ _ _ _ h
  ·rcases bW M with⟨j,u,rfl,rfl⟩|⟨y,u,rfl,rfl⟩
   ·rw[wI]at h;exact SeqAt.EqAt.str_int x t j u _ _ _ _ h
   ·rw[wG]at h;exact wpAny_eqBool_str h
 «strs»:=λk x t v h=>by
  rcases bW h with⟨i,u,rfl,e⟩|⟨y,u,rfl,e⟩
  ·exact nomatch e
  ·injection e with G _;subst G;cases v<;>rfl
def lR (prog:Program)(w:World)(i:Int)(t:Tok):(cj prog w).is (.inl i) (.int i t)=true:=qf i t
def lS (prog:Program)(w:World)(x:Str)(t:Tok):(cj prog w).is (.inr x) (.str x t)=true:=qg x t
inductive V where
 |non|bl (b:Bool)|int (i:Int)|str (x:Str)|byt (b:Array UInt8)|flt (b:UInt64)|ref (a:Addr)|ty (n:String)
 deriving DecidableEq
def aT:V->Value->Prop
 |.non,u=>u=Value.none
 |.bl b,u=>u=Value.bool b
 |.int i,u=>∃t,u=Value.int i t
 |.str x,u=>∃t,u=Value.str x t
 |.byt b,u=>∃t,u=Value.bytes b t
 |.flt b,u=>∃t,u=Value.float b t
 |.ref a,u=>u=Value.ref a
 |.ty n,u=>u=Value.type n
abbrev aX:List V->LU->Prop:=Paired aT
def aX.length (r:aX xs us):xs.length=us.length:=Paired.length r
theorem aX.get:∀ {xs:List V}{us:LU}{i:Nat}{x:V},aX xs us->xs[i]? = some x->∃u,us[i]? = some u/\aT x u
 |_,_,_,_,.nil,e=>by simp at e
 |_,_,0,_,.cons r _,e=>by simp at e;subst e;exact⟨_,rfl,r⟩
 |_,_,i+1,x,.cons _ t,e=>by
  obtain⟨u,h1,h2⟩:=aX.get (i:=i) (x:=x) t (by simpa using e);exact⟨u,by simpa using h1,h2⟩
theorem aX.set (r:aT x u):∀ {xs:List V}{us:LU}(i:Nat),aX xs us->aX (xs.set i x) (us.set i u)
 |_,_,_,.nil=>.nil
 |_,_,0,.cons _ t=>.cons r t
 |_,_,i+1,.cons q t=>.cons q (aX.set r i t)
theorem aX.append:∀ {xs ys:List V}{us G:LU},aX xs us->aX ys G->aX (xs++ys) (us++G)
 |_,_,_,_,.nil,s=>s
 |_,_,_,_,.cons r t,s=>.cons r (aX.append t s)
theorem aX.take:∀ {xs:List V}{us:LU}(n:Nat),aX xs us->aX (xs.take n) (us.take n)
 |_,_,0,_=>.nil
 |_,_,_+1,.nil=>.nil
 |_,_,n+1,.cons r t=>.cons r (aX.take n t)
theorem aX.drop:∀ {xs:List V}{us:LU}(n:Nat),aX xs us->aX (xs.drop n) (us.drop n)
 |_,_,0,r=>r
 |_,_,_+1,.nil=>.nil
 |_,_,n+1,.cons _ t=>aX.drop n t
def aX.none_of:∀ {xs:List V}{us:LU}{i:Nat},aX xs us->xs[i]? = none->us[i]? = none:=λ{xs us i} r e=>by
 have h1:=r.length;have h2:xs.length<=i:=List.getElem?_eq_none_iff.mp e;exact List.getElem?_eq_none_iff.mpr (by omega)
def kg:Option V->Option Value->Prop
 |some v,some u=>aT v u
 |none,none=>True
 |_,_=>False
def KV {κ:Type}:List (κ×V)->List (κ×Value)->Prop:=Paired λ(p:κ×V) (q:κ×Value)=>p.1=q.1/\aT p.2 q.2
def kV:dh->V
 |.inl i=>.int i
 |.inr x=>.str x
inductive HO where
  |lst (xs:List V)
  |tup (xs:List V)
  |dK (aI:List (dh×V)) (ob:Obj)|dT (aI:List (List dh×V))
  |set (S:Int->Bool) (n:Nat)
  |ins (C dx:Addr) (fs:List (Str×V))
  |own (x:Addr)
  |xd (fs:List (Str×V))
  |met (f x:Addr)
  |rng (lo hi:Int)
  |frz (o:Obj) (u:HO)
  |tbl (q:Str)
  |ext (φ:Heap->Prop)
abbrev Hp:=Addr->Option HO
noncomputable def upd (H:Hp)(a:Addr)(o:HO):Hp:=λb=>if b=a then some o else H b
def aM:upd H a o a=some o:=by unfold upd;rw[if_pos rfl]
def aK (h:b≠a):upd H a o b=H b:=by unfold upd;rw[if_neg h]
def bD {H:Hp}{a b:Addr}{o:HO}(h:H a=some o)(h':H b=none):a≠b:=by
 intro e;subst e;rw[h]at h';cases h'
section
variable (P:Program) (w:World)
def bN (H:Hp)(h:Heap)(a:Addr):HO->Prop
 |.lst xs=>xs.length<=sizeLine/\∃(its:LU)(n:Nat),aX xs its/\h.get? a=some { cls:=.type "list",data:=.seq its.toArray n }
 |.tup xs=>xs.length<=sizeLine/\∃its:LU,aX xs its/\IsTup h a its.toArray
 |.dK aI ob=>h.get? a=some ob/\aI.length<=sizeLine/\(a == sysModules)=false/\∃vs,KV aI vs/\h.DictOf (cj P w) a vs
 |.dT aI=>aI.length<=sizeLine/\(a == sysModules)=false/\∃xs:List (List dh×Addr×Value),
   Paired (λ(p:List dh×V) (q:List dh×Addr×Value)=>p.1=q.1/\H q.2.1=some (.tup (p.1.map kV))/\aT p.2 q.2.2) aI xs /\
   ∃o es O,h.get? a=some o/\o.ExactDict/\o.data=.dict es O/\es.toList=xs.map (entryOfKey (tupleKind (cj P w)))/\(xs.map (·.1)).Nodup
 |.set S n=>h.SetOf (intKind P w) a S n
 |.ins C dx fs=>H dx=some (.own a)/\fs.length<=1000/\dx≠a/\h.get? a=some (PySem.W.instObj C dx) /\
   ∃mA,h.Ns1 dx mA/\(∀f,kg (fs.lookup f) (mA f))/\PySem.Within mA (fs.map (·.1))
 |.own _=>∃o,h.get? a=some o
 |.xd fs=>∃mA,h.Ns1 a mA/\∀f,kg (fs.lookup f) (mA f)
 |.rng lo hi=>∃t u v,h.get? a=some { cls:=.type "range",data:=.fields #[.int lo t,.int hi u,.int 1 v] }
 |.frz o u=>h.get? a=some o/\bN H h a u
 |.tbl q=>∃ps:AV,h.get? a=some { cls:=.none,data:=.fields ps }/\TriplesOk ps.toList/\∀G M,codeAmong G ps.toList=some M->∃(c:Addr)(oc:Obj)(u:HO)(vs:AV)(t:Tok),M=.ref c/\H c=some (.frz oc u)/\oc.data=.fields vs/\vs[1]? = some (.str q t)
 |.met f x=>h.get? a=some (PySem.W.methodObj (.ref f) (.ref x))
 |.ext φ=>φ h/\(∃o,h.get? a=some o)/\∀h1 h2:Heap,φ h1->(∀o,h1.get? a=some o->h2.get? a=some o)->φ h2
def gL (H:Hp)(h:Heap):Prop:=∀a o,H a=some o->bN P w H h a o
end
section
variable {P:Program}{w:World}{H H':Hp}{h h':Heap}{a:Addr}{o:HO}
def bN.lt (x:bN P w H h a o):a<h.objs.size:=by
 cases o with
 |lst xs=>obtain⟨_,_,_,_,e⟩:=x;exact vX e
 |tup xs=>obtain⟨_,_,_,p⟩:=x;exact p.lt
 |dK aI ob=>exact vX (And.left x)
 |dT aI=>obtain⟨_,_,_,_,o,_,_,e,_⟩:=x;exact vX e
 |set S n=>obtain⟨o,_,_,_,e,_⟩:=x;exact vX e
 |ins C dx fs=>obtain⟨_,_,_,e,_⟩:=x;exact vX e
 |own y=>obtain⟨_,e⟩:=x;exact vX e
 |xd fs=>obtain⟨_,⟨_,_,_,e,_⟩,_⟩:=x;exact vX e
 |rng lo hi=>obtain⟨_,_,_,e⟩:=x;exact vX e
 |frz ob u=>obtain⟨e,_⟩:=x;exact vX e
 |tbl q=>obtain⟨_,e,_⟩:=x;exact vX e
 |met f y=>exact vX (show h.get? a=some _ from x)
 |ext φ=>obtain⟨_,⟨_,e⟩,_⟩:=x;exact vX e
theorem Paired.mapP {α T:Type}{F G:α->T->Prop}:∀ {M:List α}{O:List T},Paired F M O->(∀a b,F a b->G a b)->Paired G M O
 |_,_,.nil,_=>.nil
 |_,_,.cons r t,f=>.cons (f _ _ r) (Paired.mapP t f)
def bN.stay (x:bN P w H h a o)(k:∀b u,(b=a∨H b=some (.own a))->h.get? b=some u->h'.get? b=some u)
  (O:∀b,H b=some (.own a)->H' b=some (.own a)) (T:∀b xs,H b=some (.tup xs)->H' b=some (.tup xs)) (U:∀b o u,H b=some (.frz o u)->H' b=some (.frz o u)):bN P w H' h' a o:=by
 induction o with
 |lst xs=>obtain⟨z,its,n,r,e⟩:=x;exact⟨z,its,n,r,k _ _ (.inl rfl) e⟩
 |tup xs=>obtain⟨z,its,r,ob,e,c⟩:=x;exact⟨z,its,r,ob,k _ _ (.inl rfl) e,c⟩
 |dK aI ob0=>obtain⟨g,z,y,vs,r,ob,es,G,e,c⟩:=x;exact⟨k _ _ (.inl rfl) g,z,y,vs,r,ob,es,G,k _ _ (.inl rfl) e,c⟩
 |dT aI=>
  obtain⟨z,y,xs,r,ob,es,G,e,c⟩:=x;exact⟨z,y,xs,Paired.mapP r λp q z=>⟨z.1,T _ _ z.2.1,z.2.2⟩,ob,es,G,k _ _ (.inl rfl) e,c⟩
 |set S n=>obtain⟨ob,es,G,t,e,c⟩:=x;exact⟨ob,es,G,t,k _ _ (.inl rfl) e,c⟩
 |ins C dx fs=>
  obtain⟨d,z,ne,e,mA,⟨od,es,G,e2,c⟩,r⟩:=x;exact⟨O _ d,z,ne,k _ _ (.inl rfl) e,mA,⟨od,es,G,k _ _ (.inr d) e2,c⟩,r⟩
 |own y=>obtain⟨ob,e⟩:=x;exact⟨ob,k _ _ (.inl rfl) e⟩
 |xd fs=>obtain⟨mA,⟨od,es,G,e,c⟩,r⟩:=x;exact⟨mA,⟨od,es,G,k _ _ (.inl rfl) e,c⟩,r⟩
 |rng lo hi=>obtain⟨t,u,v,e⟩:=x;exact⟨t,u,v,k _ _ (.inl rfl) e⟩
 |frz ob u ih=>obtain⟨e,q⟩:=x;exact⟨k _ _ (.inl rfl) e,ih q⟩
 |tbl q=>obtain⟨ps,e,t,c⟩:=x;exact⟨ps,k a _ (.inl rfl) e,t,λM cv z=>let ⟨d,oc,u,vs,tk,z1,z2,z3⟩:=c M cv z;⟨d,oc,u,vs,tk,z1,U _ _ _ z2,z3⟩⟩
 |met f y=>
  have e:h.get? a=some (PySem.W.methodObj (.ref f) (.ref y)):=x;show h'.get? a=some (PySem.W.methodObj (.ref f) (.ref y));exact k a _ (.inl rfl) e
 |ext φ=>obtain⟨p,⟨o,e⟩,st⟩:=x;exact⟨st _ _ p λo q=>k _ _ (.inl rfl) q,⟨o,k _ _ (.inl rfl) e⟩,st⟩
def gL.lt (x:gL P w H h)(e:H a=some o):a<h.objs.size:=(x a o e).lt
def gL.fresh (x:gL P w H h)(e:h.objs.size<=a):H a=none:=by
 cases q:H a with
 |none=>rfl
 |some u=>exact absurd (vQ (x.lt q) e) (lt_irrefl _)
def gL.kept (x:gL P w H h)(k:∀b u,h.get? b=some u->h'.get? b=some u):gL P w H h':=λa o e=>
 (x a o e).stay (λb u _ q=>k b u q) (λ_ q=>q) (λ_ _ q=>q) λ_ _ _ q=>q
def gL.laid (x:gL P w H h)(k:∀b u,h.get? b=some u->h'.get? b=some u)(hp:h.objs.size<=a)(new:bN P w (upd H a o) h' a o):gL P w (upd H a o) h':=λb u e=>by
 have hn:=x.fresh hp;by_cases hb:b=a
 ·subst hb;rw[aM]at e;cases e;exact new
 ·rw[aK hb]at e;exact(x b u e).stay (λc v _ q=>k c v q) (λc q=>by rw[aK (bD q hn)];exact q) (λc xs q=>by rw[aK (bD q hn)];exact q) λc o xs q=>by rw[aK (bD q hn)];exact q
end
def Rd (H:Hp)(a:Addr)(u:HO):Prop:=H a=some u∨∃o,H a=some (.frz o u)
def Rd.of (h:H a=some u):Rd H a u:=.inl h
def Rd.ok (r:Rd H a u)(x:gL P w H h):bN P w H h a u:=by
 rcases r with r|⟨o,r⟩
 ·exact x a u r
 ·obtain⟨_,q⟩:=x a _ r;exact q
def zi:Option HO->Prop
 |some (.lst _)=>True
 |some (.dK _ _)=>True
 |some (.dT _)=>True
 |some (.set _ _)=>True
 |some (.ins _ _ _)=>True
 |some (.ext _)=>True
 |_=>False
section
variable {P:Program}{w:World}{H:Hp}{h h':Heap}{x e:Addr}{o':HO}
def gL.write (ok:gL P w H h)(O:zi (H x))(he:e=x∨H e=some (.own x))(k:∀b u,b≠e->h.get? b=some u->h'.get? b=some u)(U:∃u,h'.get? e=some u)
  (new:bN P w (upd H x o') h' x o'):gL P w (upd H x o') h':=λb u q=>by
 have M:∀c y,H c=some (.own y)->c≠x:=λc y r z=>by subst z;rw[r]at O;exact O
 have T:∀c xs,H c=some (.tup xs)->c≠x:=λc xs r z=>by subst z;rw[r]at O;exact O
 by_cases hb:b=x
 ·subst hb;rw[aM]at q;cases q;exact new
 ·rw[aK hb]at q;by_cases G:b=e
  ·have q':H b=some (.own x):=by
    rcases he with z|z
    ·exact absurd (G.trans z) hb
    ·rw[G];exact z
   rw[q]at q';cases q';obtain⟨v,hv⟩:=U;exact⟨v,by rw[G];exact hv⟩
  ·refine(ok b u q).stay (λc v hc r=>k c v ?_ r) (λc r=>by rw[aK (M c b r)];exact r) (λc xs r=>by rw[aK (T c xs r)];exact r) λc o xs r=>by rw[aK (λz=>by subst z;rw[r]at O;exact O)];exact r
   rcases hc with rfl|hc
   ·exact G
   ·rintro rfl;rcases he with z|z
    ·exact M c b hc z
    ·rw[hc]at z;cases z;exact hb rfl
end
structure Un (fs ex:List Addr)(H H':Hp)(h h':Heap):Prop where
 keep:∀b o,h.get? b=some o->H b=none->b∉fs->b∉ex->h'.get? b=some o
 slot:∀b o,h.get? b=some o->H b=none->b∈fs->b∉ex->∃sl,h'.get? b=some { o with slots:=sl }
 free:∀b o,h.get? b=some o->H b=none->b∉ex->H' b=none
 there:∀b o,h.get? b=some o->b∉ex->∃o',h'.get? b=some o'
 tups:∀b xs,H b=some (.tup xs)->H' b=some (.tup xs)
 frzs:∀b o u,H b=some (.frz o u)->H' b=some (.frz o u)
 tbls:∀b q,H b=some (.tbl q)->H' b=some (.tbl q)
section
variable {fs C4 ex Dz:List Addr}{H H1 H2:Hp}{h h1 h2 h':Heap}{a x e:Addr}{o:HO}
def Un.any (u:Un fs ex H H1 h h1)(q:h.get? b=some ob)(n:H b=none)(hx:b∉ex):∃sl,h1.get? b=some { ob with slots:=sl }:=by
 by_cases hb:b∈fs
 ·exact u.slot b ob q n hb hx
 ·exact⟨ob.slots,u.keep b ob q n hb hx⟩
def Un.trans (a:Un fs ex H H1 h h1)(b:Un fs ex H1 H2 h1 h2):Un fs ex H H2 h h2 where
 keep:=λc ob q n hc hx=>b.keep c ob (a.keep c ob q n hc hx) (a.free c ob q n hx) hc hx
 slot:=λc ob q n hc hx=>by
  obtain⟨sl,G⟩:=a.slot c ob q n hc hx;obtain⟨M,O⟩:=b.slot c _ G (a.free c ob q n hx) hc hx;exact⟨M,O⟩
 free:=λc ob q n hx=>by
  obtain⟨o',G⟩:=a.there c ob q hx;exact b.free c o' G (a.free c ob q n hx) hx
 there:=λc ob q hx=>by
  obtain⟨o',G⟩:=a.there c ob q hx;exact b.there c o' G hx
 tups:=λc xs q=>b.tups c xs (a.tups c xs q)
 frzs:=λc ob xs q=>b.frzs c ob xs (a.frzs c ob xs q)
 tbls:=λc ps q=>b.tbls c ps (a.tbls c ps q)
def Un.kept (k:∀b u,h.get? b=some u->h'.get? b=some u):Un fs ex H H h h' :=
 ⟨λb ob q _ _ _=>k b ob q,λb ob q _ _ _=>⟨ob.slots,k b ob q⟩,λ_ _ _ n _=>n,λb ob q _=>⟨ob,k b ob q⟩,λ_ _ q=>q,λ_ _ _ q=>q,λ_ _ q=>q⟩
def Un.refl:Un fs ex H H h h:=Un.kept λ_ _ q=>q
def Un.laid (k:∀b u,h.get? b=some u->h'.get? b=some u)(hp:h.objs.size<=a)(hn:H a=none):Un fs ex H (upd H a o) h h' where
 keep:=λb u q _ _ _=>k b u q
 slot:=λb u q _ _ _=>⟨u.slots,k b u q⟩
 free:=λb u q n _=>by rw[aK (vS (vQ (vX q) hp))];exact n
 there:=λb u q _=>⟨u,k b u q⟩
 tups:=λb xs q=>by rw[aK (bD q hn)];exact q
 frzs:=λb u xs q=>by rw[aK (bD q hn)];exact q
 tbls:=λb ps q=>by rw[aK (bD q hn)];exact q
def Un.write (M:zi (H x))(he:e=x∨H e=some (.own x))(k:∀b u,b≠e->h.get? b=some u->h'.get? b=some u)(O:∃u,h'.get? e=some u):Un fs ex H (upd H x o) h h':=by
 have hx:∀b,H b=none->b≠x:=λb n z=>by subst z;rw[n]at M;exact M
 have hb:∀b,H b=none->b≠e:=λb n z=>by
  subst z;rcases he with r|r
  ·exact hx b n r
  ·rw[n]at r;cases r
 have hm:∀b u,H b=some u->¬zi (some u)->b≠x:=λb u q nm z=>by subst z;rw[q]at M;exact nm M
 refine⟨λb u q n _ _=>k b u (hb b n) q,λb u q n _ _=>⟨u.slots,k b u (hb b n) q⟩,λb u q n _=>by rw[aK (hx b n)];exact n,λb u q _=>?_,
  λb xs q=>by rw[aK (hm b _ q λz=>z)];exact q,λb u xs q=>by rw[aK (hm b _ q λz=>z)];exact q,λb ps q=>by rw[aK (hm b _ q λz=>z)];exact q⟩
 by_cases G:b=e
 ·subst G;exact O
 ·exact⟨u,k b u G q⟩
def Un.mono (u:Un fs ex H H1 h h1)(hs:∀b∈fs,b∈C4)(hx:∀b∈ex,b∈Dz):Un C4 Dz H H1 h h1 :=
 ⟨λb ob q n hb he=>u.keep b ob q n (λz=>hb (hs b z)) λz=>he (hx b z),λ_ _ q n _ he=>u.any q n λz=>he (hx _ z),λb ob q n he=>u.free b ob q n λz=>he (hx b z),λb ob q he=>u.there b ob q λz=>he (hx b z),u.tups,u.frzs,u.tbls⟩
end
noncomputable def Bs (h:Heap)(H:Hp):List Addr:=(List.range h.objs.size).filter λa=>(H a).isSome
def lT (h:Heap)(H:Hp):Heap:=PySem.W.hideAll h (Bs h H)
def qh (h:Heap)(H:Hp):(lT h H).objs.size=h.objs.size:=PySem.W.hideAll_size _ _
def ju (e:h.get? b=some o)(n:H b=none):(lT h H).get? b=some o :=
 PySem.W.hideAll_get _ e λhm=>by
  have q:(H b).isSome=true:=(List.mem_filter.mp hm).2;rw[n]at q;simp at q
def tQ (e:(lT h H).get? b=some o):h.get? b=some o/\H b=none:=by
 have G:h.get? b=some o:=PySem.W.of_hideAll (Bs h H) e;refine⟨G,?_⟩;cases q:H b with
 |none=>rfl
 |some x=>
  have hm:b∈Bs h H:=List.mem_filter.mpr ⟨mem_range.mpr (vX G),by simp[q]⟩;have z:(lT h H).get? b=none:=PySem.W.hideAll_none (Bs h H) hm;rw[z]at e;cases e
noncomputable def tR (g h:Heap)(L:Addr):AO:=(List.range h.objs.size).filterMap λa=>if a=L∨(g.get? a).isSome=true then none else (h.get? a).map λo=>(a,o)
def aW (g h:Heap)(L d:Addr):AO:=(tR g h L).filter λp=>decide (p.1≠d)
structure Mod (K:Frag)(mg:Str->Option Value)(base:Heap):Prop where
 kin:K.In base
 glob:base.Ns mainGlobals mg
 blt:∃mb,base.Ns builtinsNs mb/\∀x:Str,x ≠ "__name__"->mb x=bootBuiltins x
 nolimit:base.NoLimit
 bmain:∃bm ob,mg "__builtins__" = some (.ref bm)/\bm≠builtinsNs/\base.get? bm=some ob/\ob.cls=.type "module"/\ob.dict=some builtinsNs/\ob.data=.plain
structure Cx where
 prog:Program
 w:World
 K:Frag
 mg:Str->Option Value
 base:Heap
 A:Around
 N:List Str
 s₀:Shared
 H₀:Hp
 env:Env
 outer:List Env
 stack:List Env
 ex:List Addr
 fn:Str->Bool
 calm:Bool
 pn:List (Addr×Obj)
 xe:Value->Shared->Prop
def qR (l:List Env):List Addr:=l.filterMap (·.frame)
abbrev Cx.fs (X:Cx):List Addr:=qR X.outer
def zj (sc:Scope)(x:Str):Prop:=sc.names.lookup x=some .local∨sc.names.lookup x=some .cell∨sc.names.lookup x=some .free
def vG (sc:Scope)(x:Str):Prop:=sc.names.lookup x=some .local∨sc.names.lookup x=some .cell
def BJ (env:Env)(h:Heap)(m:SV)(x:Str)(u:Value):Prop :=
 (env.kindOf x=some .local/\m x=some u)∨((env.kindOf x=some .cell∨env.kindOf x=some .free)/\∃c,env.cells.lookup x=some c/\h.IsCell c (some u))
abbrev wq {α:Type}(X:Cx):Sem α->(α->Shared->Prop)->(Value->Shared->Prop)->Shared->Prop:=wpAny (model X.prog X.w) X.A
structure Cx.Ok (X:Cx):Prop where
 mod:Mod X.K X.mg X.base
 kind:X.env.scope.kind=.function
 glob:X.env.globals=mainGlobals
 blt:X.env.builtins=builtinsNs
 above:X.s₀.heap.objs.size<=X.env.locals
 inj:∀x y c,X.env.cells.lookup x=some c->X.env.cells.lookup y=some c->x=y
 has:∀x,(X.env.kindOf x=some .cell∨X.env.kindOf x=some .free)->∃c,X.env.cells.lookup x=some c
 cab:∀x c,X.fn x=true->X.env.cells.lookup x=some c->X.s₀.heap.objs.size<=c
 hd:X.calm=true->X.A.handled=none
 frames:X.A.frames=some X.stack
 stk:X.stack=X.outer∨(X.stack=X.env::X.outer/\X.env.frame=some X.env.locals)
 exf:∀b∈X.ex,b≠X.env.locals/\∀x c,X.env.cells.lookup x=some c->c≠b
 bs:∀b o,X.base.get? b=some o->X.s₀.heap.get? b=some o/\X.H₀ b=none
 bsz:X.base.objs.size<=X.s₀.heap.objs.size
 noex:∀b o,X.base.get? b=some o->b∉X.ex
 exfs:∀b∈X.ex,b∉X.fs
 funs:X.s₀.heap.FunFrames X.base X.outer
 frf:∀b∈X.fs,X.H₀ b=none
structure Inv (X:Cx)(ac:List (Addr×Obj))(σ:List (Option V))(H:Hp)(s:Shared):Prop where
 ok:X.Ok
 os:s.os=X.s₀.os
 bare:AllBare s.gens
 base:Un X.fs X.ex X.H₀ H X.s₀.heap s.heap
 loc:∃m,s.heap.Ns X.env.locals m/\∀(i:Nat)(x:Str)(v:V),X.N[i]? = some x->σ[i]? = some (some v)->zj X.env.scope x->∃u,aT v u/\BJ X.env s.heap m x u
 cell:∀x c,X.env.cells.lookup x=some c->∃v,s.heap.IsCell c v
 free:H X.env.locals=none
 freeC:∀x c,X.env.cells.lookup x=some c->H c=none
 pin:∀p∈X.pn++ac,s.heap.get? p.1=some p.2/\H p.1=none/\p.1≠X.env.locals/\p.1∉X.fs/\∀v,p.2.data≠.cell v
 hok:gL X.prog X.w H s.heap
 len:σ.length=X.N.length
section
variable {X:Cx}{ac:AO}{σ:List (Option V)}{H H':Hp}{s:Shared}{h':Heap}
def Cx.Ok.nofr (ok:X.Ok)(e:X.base.get? b=some o):b∉X.fs:=λhb=>by
 have:=(ok.funs.mem hb).1;rw[e]at this;cases this
def Inv.bs (I:Inv X ac σ H s):∀b o,X.base.get? b=some o->s.heap.get? b=some o/\H b=none:=λb o e=>
 ⟨I.base.keep b o (I.ok.bs b o e).1 (I.ok.bs b o e).2 (I.ok.nofr e) (I.ok.noex b o e),I.base.free b o (I.ok.bs b o e).1 (I.ok.bs b o e).2 (I.ok.noex b o e)⟩
def Inv.bk (I:Inv X ac σ H s):∀b o,X.base.get? b=some o->s.heap.get? b=some o:=λb o e=>(I.bs b o e).1
def Inv.mod (I:Inv X ac σ H s):Mod X.K X.mg X.base:=I.ok.mod
def Inv.kIn (I:Inv X ac σ H s):X.K.In s.heap:=I.ok.mod.kin.keeps I.bk
def Inv.lt (I:Inv X ac σ H s):X.env.locals<s.heap.objs.size:=let ⟨_,hn,_⟩:=I.loc;hn.lt
def Inv.sz (I:Inv X ac σ H s):X.s₀.heap.objs.size<=s.heap.objs.size:=vR I.ok.above (le_of_lt I.lt)
def Inv.nofs (I:Inv X ac σ H s)(h:s.heap.objs.size<=a):a∉X.fs:=λhb=>by
 obtain⟨_,o,G,_⟩:=I.ok.funs.mem hb;exact absurd (vQ (vX G) (vR I.sz h)) (lt_irrefl _)
def Inv.cne (I:Inv X ac σ H s):∀x c,X.env.cells.lookup x=some c->c≠X.env.locals:=λx c e z=>by
 obtain⟨v,o,O,hd⟩:=I.cell x c e;obtain⟨m,⟨o',es,T,G,M,_⟩,_⟩:=I.loc;rw[z,G]at O;cases O;rw[M]at hd;cases hd
def Inv.funs (I:Inv X ac σ H s):s.heap.FunFrames X.base X.outer:=by
 have all:∀(l:List Env),(∀b∈qR l,b∈X.fs)->X.s₀.heap.FunFrames X.base l->s.heap.FunFrames X.base l:=by
  intro l;induction l with
  |nil=>intro _ _;trivial
  |cons env r O=>
   intro hs hl;obtain⟨hk,⟨L,o,G,hn,T,hd⟩,hr⟩:=hl;have M:L∈X.fs:=hs L (by unfold qR;rw[List.filterMap_cons,G];exact mX);obtain⟨sl,e⟩:=I.base.slot L o T (I.ok.frf L M) M λz=>I.ok.exfs L z M;exact⟨hk,⟨L,_,G,hn,e,hd⟩,O (λb hb=>hs b (by unfold qR;rw[List.filterMap_cons,G];exact mZ _ hb)) hr⟩
 exact all X.outer (λ_ hb=>hb) I.ok.funs
def Inv.stack (I:Inv X ac σ H s):s.heap.FunFrames X.base X.stack:=by
 rcases I.ok.stk with e|⟨e,G⟩
 ·rw[e];exact I.funs
 ·rw[e];obtain⟨m,hn,_⟩:=I.loc;refine .cons (by rw[I.ok.kind];decide) G hn ?_ I.funs;exact Heap.get?_none_of_le (vR I.ok.bsz I.ok.above)
def Inv.stkSub (I:Inv X ac σ H s):∀b∈qR X.stack,b∈X.env.locals::X.fs:=λb hb=>by
 rcases I.ok.stk with e|⟨e,G⟩
 ·rw[e]at hb;exact mZ _ hb
 ·rw[e]at hb;unfold qR at hb;rw[List.filterMap_cons,G]at hb;exact hb
def Inv.stkFree (I:Inv X ac σ H s):∀b∈qR X.stack,H b=none:=λb hb=>by
 rcases mem_cons.mp (I.stkSub b hb)with e|hb
 ·rw[e];exact I.free
 ·obtain⟨_,o,G,_⟩:=I.ok.funs.mem hb;exact I.base.free b o G (I.ok.frf b hb) λz=>I.ok.exfs b z hb
def Inv.step {g':Array GenState}{t':Nat}{d':Drawn}{ch:List Addr}(I:Inv X ac σ H s)
  (G:∀b∈ch,(b∈X.ex∨X.s₀.heap.objs.size<=b)/\b≠X.env.locals/\(∀x c,X.env.cells.lookup x=some c->c≠b)/\∀p∈X.pn++ac,p.1≠b)
  (keep:∀b o,b≠X.env.locals->b∉X.fs->b∉ch->s.heap.get? b=some o->H b=none->h'.get? b=some o)
  (slot:∀b o,b≠X.env.locals->b∈X.fs->b∉ch->s.heap.get? b=some o->H b=none->∃sl,h'.get? b=some { o with slots:=sl }) (free:∀b o,b∉ch->s.heap.get? b=some o->H b=none->H' b=none)
  (there:∀b o,b∉ch->s.heap.get? b=some o->∃o',h'.get? b=some o')
  (tups:∀b xs,H b=some (.tup xs)->H' b=some (.tup xs)) (frzs:∀b o u,H b=some (.frz o u)->H' b=some (.frz o u)) (tbls:∀b q,H b=some (.tbl q)->H' b=some (.tbl q))
  (ns:∀m,s.heap.Ns X.env.locals m->h'.Ns X.env.locals m) (hok:gL X.prog X.w H' h') (hg:AllBare g'):
  Inv X ac σ H' { s with heap:=h',gens:=g',drawn:=d',toks:=t' }:=by
 have D0:∀b o,X.s₀.heap.get? b=some o->b≠X.env.locals:=λb o e=>vS (vQ (vX e) I.ok.above);have T:∀b o,X.s₀.heap.get? b=some o->b∉X.ex->b∉ch:=λb o e hx hb=>by
  rcases (G b hb).1 with z|z
  ·exact hx z
  ·exact absurd (vQ (vX e) z) (lt_irrefl _)
 have M:∀x c,X.env.cells.lookup x=some c->∀v,s.heap.IsCell c v->h'.IsCell c v:=λx c e v ⟨o,ho,hd⟩=>by
  have O:c∉ch:=λz=>(G c z).2.2.1 x c e rfl;by_cases hc:c∈X.fs
  ·obtain⟨sl,q⟩:=slot c o (I.cne x c e) hc O ho (I.freeC x c e);exact⟨_,q,hd⟩
  ·exact⟨o,keep c o (I.cne x c e) hc O ho (I.freeC x c e),hd⟩
 refine⟨I.ok,I.os,hg,⟨λb o e n hb hx=>?_,λb o e n hb hx=>?_,λb o e n hx=>?_,λb o e hx=>?_,λb xs e=>tups b xs (I.base.tups b xs e),λb o xs e=>frzs b o xs (I.base.frzs b o xs e),λb ps e=>?_⟩,?_,λx c e=>?_,?_,λx c e=>?_,λp hp=>?_,hok,I.len⟩
 ·exact keep b o (D0 b o e) hb (T b o e hx) (I.base.keep b o e n hb hx) (I.base.free b o e n hx)
 ·obtain⟨sl,U⟩:=I.base.slot b o e n hb hx;obtain⟨E8,e2⟩:=slot b _ (D0 b o e) hb (T b o e hx) U (I.base.free b o e n hx);exact⟨E8,e2⟩
 ·obtain⟨o',U⟩:=I.base.there b o e hx;exact free b o' (T b o e hx) U (I.base.free b o e n hx)
 ·obtain⟨o',U⟩:=I.base.there b o e hx;exact there b o' (T b o e hx) U
 ·exact tbls b _ (I.base.tbls b ps e)
 ·obtain⟨m,hn,hl⟩:=I.loc;refine⟨m,ns m hn,λi x v U e2 e3=>?_⟩;obtain⟨u,r,l⟩:=hl i x v U e2 e3;refine⟨u,r,?_⟩;rcases l with l|⟨k,c,e,z⟩
  ·exact .inl l
  ·exact .inr ⟨k,c,e,M x c e _ z⟩
 ·obtain⟨v,z⟩:=I.cell x c e;exact⟨v,M x c e v z⟩
 ·obtain⟨m,⟨o,_,_,ho,_⟩,_⟩:=I.loc;exact free _ o (λz=>(G _ z).2.1 rfl) ho I.free
 ·obtain⟨v,o,ho,hd⟩:=I.cell x c e;exact free c o (λz=>(G c z).2.2.1 x c e rfl) ho (I.freeC x c e)
 ·obtain⟨e,n,ne,nf,d⟩:=I.pin p hp;have O:p.1∉ch:=λz=>(G p.1 z).2.2.2 p hp rfl;exact⟨keep p.1 p.2 ne nf O e n,free p.1 p.2 O e n,ne,nf,d⟩
def Inv.un {t':Nat}(I:Inv X ac σ H s)(u:Un X.fs [] H H' s.heap h')(hok:gL X.prog X.w H' h'):Inv X ac σ H' { s with heap:=h',toks:=t' }:=by
 obtain⟨m,⟨o,es,ep,T,r⟩,_⟩:=id I.loc;obtain⟨sl,U⟩:=u.any T I.free (by simp);exact I.step (g':=s.gens) (d':=s.drawn) (ch:=[]) (λ_ z=>nomatch z) (λb o _ hb _ e n=>u.keep b o e n hb (by simp)) (λb o _ hb _ e n=>u.slot b o e n hb (by simp)) (λb o _ e n=>u.free b o e n (by simp)) (λb o _ e=>u.there b o e (by simp)) u.tups u.frzs u.tbls (λm' hm=>by
  obtain⟨o',M,O,G,r'⟩:=hm;rw[T]at G;cases G;exact⟨_,M,O,U,r'⟩) hok I.bare
def Inv.call {g':Array GenState}{t':Nat}{d':Drawn}{ch:List Addr}(I:Inv X ac σ H s)(u:Un (qR X.stack) ch H H' s.heap h')(hok:gL X.prog X.w H' h')(hg:AllBare g')
  (G:∀b∈ch,(b∈X.ex∨X.s₀.heap.objs.size<=b)/\b≠X.env.locals/\(∀x c,X.env.cells.lookup x=some c->c≠b)/\∀p∈X.pn++ac,p.1≠b):
  Inv X ac σ H' { s with heap:=h',gens:=g',drawn:=d',toks:=t' }:=by
 obtain⟨m,⟨o,es,ep,ho,r⟩,_⟩:=id I.loc;obtain⟨sl,O⟩:=u.any ho I.free λz=>(G _ z).2.1 rfl;exact I.step (ch:=ch) G (λb o O hb hc e n=>u.keep b o e n (λz=>(mem_cons.mp (I.stkSub b z)).elim O hb) hc) (λb o _ _ hc e n=>u.any e n hc) (λb o hc e n=>u.free b o e n hc) (λb o hc e=>u.there b o e hc) u.tups u.frzs u.tbls (λm' hm=>by
  obtain⟨o',T,U,M,r'⟩:=hm;rw[ho]at M;cases M;exact⟨_,T,U,O,r'⟩) hok hg
def Inv.turned {t':Nat}{it:Addr}(I:Inv X ac σ H s)(k:∀b o,b≠it->s.heap.get? b=some o->h'.get? b=some o)(hn:H it=none)(M:it≠X.env.locals)
  (h1:it∈X.ex∨X.s₀.heap.objs.size<=it) (h2:∀x c,X.env.cells.lookup x=some c->c≠it) (h3:∀p∈X.pn++ac,p.1≠it):Inv X ac σ H { s with heap:=h',toks:=t' }:=by
 have G:∀b u,H b=some u->b≠it:=λb u e z=>by rw[z,hn]at e;cases e
 refine I.step (g':=s.gens) (d':=s.drawn) (ch:=[it]) (λb hb=>?_) (λb o _ _ hc e _=>k b o (λz=>hc (by simp[z])) e) (λb o _ _ hc e _=>⟨o.slots,k b o (λz=>hc (by simp[z])) e⟩) (λ_ _ _ _ n=>n)
  (λb o hc e=>⟨o,k b o (λz=>hc (by simp[z])) e⟩) (λ_ _ e=>e) (λ_ _ _ e=>e) (λ_ _ e=>e) (λm hm=>?_) (λb u e=>?_) I.bare
 ·have e:b=it:=by simpa using hb
  subst e;exact⟨h1,M,h2,h3⟩
 ·obtain⟨o,es,O,T,r⟩:=hm;exact⟨o,es,O,k _ o (Ne.symm M) T,r⟩
 ·refine(I.hok b u e).stay (λc v hc q=>k c v ?_ q) (λ_ q=>q) (λ_ _ q=>q) λ_ _ _ q=>q;rcases hc with z|z
  ·rw[z];exact G b u e
  ·exact G c _ z
def Inv.tok (I:Inv X ac σ H s)(t:Nat):Inv X ac σ H { s with toks:=t }:=I.un (h':=s.heap) (t':=t) Un.refl I.hok
def Inv.kept (I:Inv X ac σ H s)(k:∀b u,s.heap.get? b=some u->h'.get? b=some u):Inv X ac σ H { s with heap:=h',toks:=t' }:=I.un (Un.kept k) (I.hok.kept k)
def Inv.laid (I:Inv X ac σ H s)(k:∀b u,s.heap.get? b=some u->h'.get? b=some u)(hp:s.heap.objs.size<=a)(new:bN X.prog X.w (upd H a o) h' a o):
  Inv X ac σ (upd H a o) { s with heap:=h',toks:=t' }:=I.un (Un.laid k hp (I.hok.fresh hp)) (I.hok.laid k hp new)
def Inv.write (I:Inv X ac σ H s)(M:zi (H x))(he:e=x∨H e=some (.own x))(k:∀b u,b≠e->s.heap.get? b=some u->h'.get? b=some u)(G:∃u,h'.get? e=some u)
  (new:bN X.prog X.w (upd H x o) h' x o):Inv X ac σ (upd H x o) { s with heap:=h',toks:=t' }:=I.un (Un.write M he k G) (I.hok.write M he k G new)
def Inv.pins_of (I:Inv X ac σ H s)(h:∀p∈pins',s.heap.get? p.1=some p.2/\H p.1=none/\p.1≠X.env.locals/\p.1∉X.fs/\∀v,p.2.data≠.cell v):Inv X pins' σ H s :=
 ⟨I.ok,I.os,I.bare,I.base,I.loc,I.cell,I.free,I.freeC,λp hp=>(mem_append.mp hp).elim (λz=>I.pin p (List.mem_append_left _ z)) (h p),I.hok,I.len⟩
def lU {N:LS}(G:N.Nodup){i j:Nat}{x:Str}(a:N[i]? = some x)(b:N[j]? = some x):i=j:=by
 obtain⟨h1,M⟩:=vV a;obtain⟨h2,O⟩:=vV b;exact(List.getElem_inj G).mp (M.trans O.symm)
def kr {M:Model}{A:Around}{E:QV}{i:Nat}{x:Str}{v:V}{u:Value}{Q:Unit->Shared->Prop}(I:Inv X ac σ H s)(hN:X.N.Nodup)(hi:X.N[i]? = some x)(hx:vG X.env.scope x)(r:aT v u)
  (h:∀s',Inv X ac (σ.set i (some v)) H s'->(∃a,Heap.SameBut a s.heap s'.heap/\(a=X.env.locals∨X.env.cells.lookup x=some a))->Q () s') (hf:X.fn x=true∨X.env.scope.names.lookup x=some .local:=by first|exact .inl rfl|exact .inr rfl|assumption):wpAny M A (storeName X.env x u) Q E s:=by
 obtain⟨m,hn,hl⟩:=id I.loc;have C5:(X.env.scope.kind == .class || (X.env.scope.kind == .module && X.env.locals != X.env.globals))=false:=by rw[I.ok.kind];rfl
 have Bb:i<σ.length:=by rw[I.len];exact(vV hi).1
 have cne:=I.cne;have G:∀ {a:Addr}{h':Heap},(∃o,s.heap.get? a=some o/\H a=none)->Heap.SameBut a s.heap h'->gL X.prog X.w H h':=λ{a h'} ha hs b ob e=>by
  obtain⟨_,_,T⟩:=ha;refine(I.hok b ob e).stay (λc w' hc q=>(hs.2 c ?_).trans q) (λ_ q=>q) (λ_ _ q=>q) λ_ _ _ q=>q;rintro rfl;rcases hc with rfl|hc
  ·rw[T]at e;cases e
  ·rw[T]at hc;cases hc
 rcases hx with hk|hk
 ·refine wpAny_storeName_local hk hn (λh' C6 hs=>?_) C5;obtain⟨oL,_,_,E9,_⟩:=id hn;refine h _ ⟨I.ok,I.os,I.bare,⟨λb o e n hb hx=>?_,λb o e n hb hx=>?_,I.base.free,λb o e hx=>?_,I.base.tups,I.base.frzs,I.base.tbls⟩,⟨_,C6,λj y v' O U e3=>?_⟩,λy c e=>?_,I.free,I.freeC,λp hp=>?_,G ⟨oL,E9,I.free⟩ hs,by simpa using I.len⟩ ⟨_,hs,.inl rfl⟩
  ·exact(hs.2 b (vS (vQ (vX e) I.ok.above))).trans (I.base.keep b o e n hb hx)
  ·obtain⟨sl,O⟩:=I.base.slot b o e n hb hx;exact⟨sl,(hs.2 b (vS (vQ (vX e) I.ok.above))).trans O⟩
  ·obtain⟨o',O⟩:=I.base.there b o e hx;exact⟨o',(hs.2 b (vS (vQ (vX e) I.ok.above))).trans O⟩
  ·by_cases hj:j=i
   ·subst hj;rw[hi]at O;cases O;rw[List.getElem?_set_self Bb]at U;cases U
    exact⟨u,r,.inl ⟨hk,by simp⟩⟩
   ·rw[vC (Ne.symm hj)]at U;obtain⟨u',r',q⟩:=hl j y v' O U e3;refine⟨u',r',?_⟩;rcases q with⟨k,e⟩|⟨k,c,e,z⟩
    ·refine .inl ⟨k,?_⟩;have:y≠x:=λe=>hj (lU hN O (e ▸ hi));simp[this,e]
    ·exact .inr ⟨k,c,e,z.sameBut hs (cne y c e)⟩
  ·obtain⟨w',z⟩:=I.cell y c e;exact⟨w',z.sameBut hs (cne y c e)⟩
  ·obtain⟨e,n,ne,nf,d⟩:=I.pin p hp;exact⟨(hs.2 p.1 ne).trans e,n,ne,nf,d⟩
 ·have C7:X.fn x=true:=by
   rcases hf with z|z
   ·exact z
   ·rw[z]at hk;cases hk
  obtain⟨c,hc⟩:=I.ok.has x (.inl hk);obtain⟨w',z⟩:=I.cell x c hc;refine wpAny_storeName_cell I.ok.kind hk hc z (λh' D1 hs=>?_);obtain⟨oc,D2,C8⟩:=id z;refine h { s with heap:=h' } ⟨I.ok,I.os,I.bare,⟨λb o e n hb hx=>?_,λb o e n hb hx=>?_,I.base.free,λb o e hx=>?_,I.base.tups,I.base.frzs,I.base.tbls⟩,⟨m,hn.sameBut hs (Ne.symm (cne x c hc)),λj y v' O U e3=>?_⟩,λy c' e=>?_,I.free,I.freeC,λp hp=>?_,G ⟨oc,D2,I.freeC x c hc⟩ hs,by simpa using I.len⟩ ⟨c,hs,.inr hc⟩
  ·exact(hs.2 b (vS (vQ (vX e) (I.ok.cab x c C7 hc)))).trans (I.base.keep b o e n hb hx)
  ·obtain⟨sl,O⟩:=I.base.slot b o e n hb hx;exact⟨sl,(hs.2 b (vS (vQ (vX e) (I.ok.cab x c C7 hc)))).trans O⟩
  ·obtain⟨o',O⟩:=I.base.there b o e hx;exact⟨o',(hs.2 b (vS (vQ (vX e) (I.ok.cab x c C7 hc)))).trans O⟩
  ·by_cases hj:j=i
   ·subst hj;rw[hi]at O;cases O;rw[List.getElem?_set_self Bb]at U;cases U
    exact⟨u,r,.inr ⟨.inl hk,c,hc,D1⟩⟩
   ·rw[vC (Ne.symm hj)]at U;obtain⟨u',r',q⟩:=hl j y v' O U e3;refine⟨u',r',?_⟩;rcases q with q|⟨k,c',e,z'⟩
    ·exact .inl q
    ·refine .inr ⟨k,c',e,z'.sameBut hs ?_⟩;rintro rfl;exact hj (lU hN O (I.ok.inj _ _ _ e hc ▸ hi))
  ·by_cases hcc:c'=c
   ·subst hcc;exact⟨_,D1⟩
   ·obtain⟨w2,z2⟩:=I.cell y c' e;exact⟨w2,z2.sameBut hs hcc⟩
  ·obtain⟨e,n,ne,nf,d⟩:=I.pin p hp;refine⟨(hs.2 p.1 ?_).trans e,n,ne,nf,d⟩;intro q;rw[q,D2]at e;have q':oc=p.2:=vK e;exact d w' (by rw[←q'];exact C8)
def lV {M:Model}{A:Around}{E:QV}{i:Nat}{x:Str}{v:V}{u:Value}{Q:Unit->Shared->Prop}(I:Inv X ac σ H s)(O:X.N.Nodup)(hi:X.N[i]? = some x)(hx:vG X.env.scope x)(r:aT v u)
  (h:∀G,Inv X ac (σ.set i (some v)) H G->Q () G) (T:X.fn x=true∨X.env.scope.names.lookup x=some .local:=by first|exact .inl rfl|exact .inr rfl|assumption):wpAny M A (storeName X.env x u) Q E s :=
 kr I O hi hx r (λG U _=>h G U) T
def Inv.call' (I:Inv X ac σ H s)(M:s'.os=s.os)(u:Un (qR X.stack) ch H H' s.heap s'.heap)(hok:gL X.prog X.w H' s'.heap)(O:AllBare s'.gens)
  (G:∀b∈ch,(b∈X.ex∨X.s₀.heap.objs.size<=b)/\b≠X.env.locals/\(∀x c,X.env.cells.lookup x=some c->c≠b)/\∀p∈X.pn++ac,p.1≠b):Inv X ac σ H' s':=by
 obtain⟨h',g',d',t',o'⟩:=s';have e:o'=s.os:=M;subst e;exact I.call (g':=g') (t':=t') (d':=d') u hok O G
end
abbrev XK:=Value->Option Addr->Hp->Prop
abbrev St:=List (Option V)
abbrev VK:=V->Hp->Prop
abbrev TE:=St->Hp->VK->Prop
abbrev TT:=St->Hp->(Bool->Hp->Prop)->Prop
abbrev TA:=St->Hp->(List V->Hp->Prop)->Prop
structure Ends where
 nx:St->Hp->Prop
 rt:VK
 bk:St->Hp->Prop:=λ_ _=>False
 ct:St->Hp->Prop:=λ_ _=>False
abbrev TS:=Ends->St->Hp->Prop
def EP (X:Cx)(ac:AO)(σ:St)(Q:VK)(u:Value)(G:Shared):Prop:=∃v H',Inv X ac σ H' G/\aT v u/\Q v H'
def TP (X:Cx)(ac:AO)(σ:St)(Q:Bool->Hp->Prop)(b:Bool)(G:Shared):Prop:=∃H',Inv X ac σ H' G/\Q b H'
def AP (X:Cx)(ac:AO)(σ:St)(Q:List V->Hp->Prop)(us:LU)(G:Shared):Prop:=∃vs H',Inv X ac σ H' G/\aX vs us/\Q vs H'
def SP (X:Cx)(ac:AO)(D:Ends)(f:Flow)(M:Shared):Prop :=
 match f with
 |.next=>∃G H',Inv X ac G H' M/\D.nx G H'
 |.brk=>∃G H',Inv X ac G H' M/\D.bk G H'
 |.cont=>∃G H',Inv X ac G H' M/\D.ct G H'
 |.ret u=>∃v G H',Inv X ac G H' M/\aT v u/\D.rt v H'
def PE (X:Cx)(e:Expr)(t:TE):Prop :=
 ∀(ac:AO)(s:Shared)(σ:St)(H:Hp)(Q:VK),Inv X ac σ H s->t σ H Q->wq X (eval e X.env) (EP X ac σ Q) X.xe s
def PT (X:Cx)(e:Expr)(t:TT):Prop :=
 ∀(ac:AO)(s:Shared)(σ:St)(H:Hp)(Q:Bool->Hp->Prop),Inv X ac σ H s->t σ H Q->wq X (isTrue e X.env (eval e X.env)) (TP X ac σ Q) X.xe s
def PW (X:Cx)(e:Expr)(t:TT):Prop :=
 ∀(G:Sem Value)(ac:AO)(s:Shared)(σ:St)(H:Hp)(Q:Bool->Hp->Prop),Inv X ac σ H s->t σ H Q->wq X (isTrue e X.env G) (TP X ac σ Q) X.xe s
def PW.pt (h:PW X e t):PT X e t:=h _
def PA (X:Cx)(es:QD)(t:TA):Prop :=
 ∀(G:Pos)(ac:AO)(s:Shared)(σ:St)(H:Hp)(Q:List V->Hp->Prop),Inv X ac σ H s->t σ H Q->wq X (spliced (backTo G (starEach es X.env))) (AP X ac σ Q) X.xe s
def PS (X:Cx)(st:Stmt)(t:TS):Prop :=
 ∀(ac:AO)(s:Shared)(σ:St)(H:Hp)(D:Ends),Inv X ac σ H s->t D σ H->wq X (exec st X.env) (SP X ac D) X.xe s
def lr (X:Cx)(st:List Stmt)(t:TS):Prop :=
 ∀(ac:AO)(s:Shared)(σ:St)(H:Hp)(D:Ends),Inv X ac σ H s->t D σ H->wq X (execs st X.env) (SP X ac D) X.xe s
def bV {α:Type}{t:Sem α}{Q G:α->Shared->Prop}{M:Model}{A:Around}{E:QV}{s:Shared}(h:wpAny M A t Q E s)(O:∀a s,Q a s->G a s):wpAny M A t G E s:=wpAny_mono h O λ_ _ x=>x
section
variable {X:Cx}
def lW (i:Nat):TE:=λσ H Q=>∃v,σ[i]? = some (some v)/\Q v H
def tC (v:V):TE:=λ_ H Q=>Q v H
def ls (T:X.N[i]? = some x)(U:zj X.env.scope x)(hd:(x == ("__debug__" : Str))=false:=by decide)(O:(x == ("__classdict__" : Str))=false:=by decide):PE X (.Name x pos) (lW i):=by
 intro ac s σ H Q I h;obtain⟨v,e,h⟩:=h;obtain⟨m,hn,hl⟩:=I.loc;obtain⟨u,r,l⟩:=hl i x v T e U;have M:EP X ac σ Q u s:=⟨v,H,I,r,h⟩;rcases l with⟨hk,hm⟩|⟨hk,c,hc,G⟩
 ·exact wpAny_Name (wpAny_loadName_local I.ok.kind hk hn hm M) hd
 ·rcases hk with hk|hk
  ·exact wpAny_Name (wpAny_loadName_cell I.ok.kind hk hc G M) hd
  ·exact wpAny_Name (wpAny_loadName_free I.ok.kind hk hc G M O) hd
def wJ {i j pos}:PE X (.Constant (.int i) j pos) (tC (.int i)):=λ_ _ _ H _ I h=>wpAny_Constant_int ⟨.int i,H,I.tok _,⟨_,rfl⟩,h⟩
def zk {b j pos}:PE X (.Constant (.bool b) j pos) (tC (.bl b)):=λ_ _ _ H _ I h=>Constant_bool ⟨.bl b,H,I,rfl,h⟩
def wK {j pos}:PE X (.Constant .none j pos) (tC .non):=λ_ _ _ H _ I h=>Constant_none ⟨.non,H,I,rfl,h⟩
def wL {x j pos}:PE X (.Constant (.str x) j pos) (tC (.str x)):=λ_ _ _ H _ I h=>Calls.Constant_str ⟨.str x,H,I.tok _,⟨_,rfl⟩,h⟩
def Gl (X:Cx)(x:Str):Prop:=X.env.kindOf x=some .globalImplicit
def oP {E:QV}{ac:AO}{s:Shared}{σ:St}{H:Hp}{x:Str}{u:Value}{G:Pos}{Q:QV}(I:Inv X ac σ H s)(M:Gl X x)(hm:X.mg x=some u)(h:Q u s)
  (hd:(x == ("__debug__" : Str))=false:=by decide):wq X (eval (.Name x G) X.env) Q E s :=
 Calls.Name_function_global I.ok.kind M (Calls.loadGlobal_global (by rw[I.ok.glob];exact I.mod.glob.keeps I.bk) hm h) hd
def jw {E:QV}{ac:AO}{s:Shared}{σ:St}{H:Hp}{x:Str}{u:Value}{G:Pos}{Q:QV}(I:Inv X ac σ H s)(M:Gl X x)(hm:X.mg x=none)(O:bootBuiltins x=some u)(h:Q u s)
  (hn:x ≠ "__name__":=by decide) (hd:(x == ("__debug__" : Str))=false:=by decide):wq X (eval (.Name x G) X.env) Q E s:=by
 obtain⟨mb,h1,h2⟩:=I.mod.blt;exact Calls.Name_function_global I.ok.kind M (Calls.loadGlobal_builtin (by rw[I.ok.glob];exact I.mod.glob.keeps I.bk) hm (by rw[I.ok.blt];exact h1.keeps I.bk) ((h2 x hn).trans O) h) hd
def jp (G:Gl X x)(hm:X.mg x=some u)(r:aT v u)(hd:(x == ("__debug__" : Str))=false:=by decide):PE X (.Name x pos) (tC v) :=
 λ_ _ _ H _ I h=>oP I G hm ⟨v,H,I,r,h⟩ hd
def tS (G:Gl X x)(hm:X.mg x=none)(M:bootBuiltins x=some u)(r:aT v u)(hn:x ≠ "__name__":=by decide)(hd:(x == ("__debug__" : Str))=false:=by decide):PE X (.Name x pos) (tC v) :=
 λ_ _ _ H _ I h=>jw I G hm M ⟨v,H,I,r,h⟩ hn hd
variable {a b:Expr}{ta tb:TE}{pos:Pos}
def jx (b:Expr){G:CmpOp}(h:G≠.In)(h2:G≠.NotIn):behindInMarks G b=false:=by
 have M:(G == CmpOp.In)=false:=by cases G<;>first|rfl|exact absurd rfl h
 have O:(G == CmpOp.NotIn)=false:=by cases G<;>first|rfl|exact absurd rfl h2
 cases b<;>simp[behindInMarks,M,O]
def tB (t:TE):TT:=λσ H Q=>t σ H λx G=>∃c,x=.bl c/\Q c G
def wM {e:Expr}{t:TE}(h:PE X e t)(he:∀G,isTrue e X.env G=(do let v ←G;standAt e.pos;holding [v] (truthy v)):=by intro _;rfl):PT X e (tB t):=by
 intro ac s σ H Q I hw;refine isTrue_plain (bV (h ac s σ H _ I hw) λv s1 ⟨x,M,O,T,U⟩=>?_) (he _);obtain⟨d,rfl,q⟩:=U;cases T
 exact wpAny_truthy_bool ⟨M,O,q⟩
variable {tA B7:TT}{aW:QD}
def zl (t u:TT):TT:=λσ H Q=>t σ H λc G=>if c=true then u σ G Q else Q false G
def Dc (t u:TT):TT:=λσ H Q=>t σ H λc G=>if c=true then Q true G else u σ G Q
def zm (t:TT):TT:=λσ H Q=>t σ H λc G=>Q (!c) G
def tT (ha:PT X a tA):PW X (.BoolOp .And [a] pos) tA:=by
 intro G ac s σ H Q I h;refine isTrue_and (bV (ha ac s σ H Q I h) λc s1 e=>?_);cases c with
 |true=>exact isTrue_and_nil e
 |false=>exact e
def wN (ha:PT X a tA):PW X (.BoolOp .Or [a] pos) tA:=by
 intro G ac s σ H Q I h;refine isTrue_or (bV (ha ac s σ H Q I h) λc s1 e=>?_);cases c with
 |false=>exact isTrue_or_nil e
 |true=>exact e
def wO (ha:PT X a tA)(hb:PW X (.BoolOp .And (b::aW) pos) B7):PW X (.BoolOp .And (a::b::aW) pos) (zl tA B7):=by
 intro T ac s σ H Q I h;refine isTrue_and (bV (ha ac s σ H _ I h) λc s1 ⟨G,M,O⟩=>?_);cases c with
 |true=>exact hb T ac s1 σ G Q M O
 |false=>exact⟨G,M,O⟩
def zn (ha:PT X a tA)(hb:PW X (.BoolOp .Or (b::aW) pos) B7):PW X (.BoolOp .Or (a::b::aW) pos) (Dc tA B7):=by
 intro T ac s σ H Q I h;refine isTrue_or (bV (ha ac s σ H _ I h) λc s1 ⟨G,M,O⟩=>?_);cases c with
 |true=>exact⟨G,M,O⟩
 |false=>exact hb T ac s1 σ G Q M O
def wP (ha:PT X a tA):PT X (.UnaryOp .Not a pos) (zm tA):=by
 intro ac s σ H Q I h;exact isTrue_not (ha ac s σ H (λc G=>Q (!c) G) I h)
def zo (ta tb:TE):TE:=λσ H Q=>ta σ H λx G=>∃c,x=.bl c/\if c=true then tb σ G Q else Q (.bl false) G
def BL (ta tb:TE):TE:=λσ H Q=>ta σ H λx G=>∃c,x=.bl c/\if c=true then Q (.bl true) G else tb σ G Q
def zp (ta:TE):TE:=λσ H Q=>ta σ H λx G=>∃c,x=.bl c/\Q (.bl (!c)) G
def wQ {op}(h:PE X a t):PE X (.BoolOp op [a] pos) t:=λac s σ H Q I hw=>BoolOp_one (h ac s σ H Q I hw)
def wR (ha:PE X a ta)(hb:PE X (.BoolOp .And (b::aW) pos) tb):PE X (.BoolOp .And (a::b::aW) pos) (zo ta tb):=by
 intro ac s σ H Q I h;refine BoolOp_and (bV (ha ac s σ H _ I h) λv s1 ⟨x,M,O,T,G⟩=>?_);obtain⟨c,rfl,G⟩:=G;cases T
 refine wpAny_truthy_bool ?_;cases c with
 |true=>exact hb ac s1 σ M Q O G
 |false=>exact⟨.bl false,M,O,rfl,G⟩
def zq (ha:PE X a ta)(hb:PE X (.BoolOp .Or (b::aW) pos) tb):PE X (.BoolOp .Or (a::b::aW) pos) (BL ta tb):=by
 intro ac s σ H Q I h;refine BoolOp_or (bV (ha ac s σ H _ I h) λv s1 ⟨x,M,O,T,G⟩=>?_);obtain⟨c,rfl,G⟩:=G;cases T
 refine wpAny_truthy_bool ?_;cases c with
 |false=>exact hb ac s1 σ M Q O G
 |true=>exact⟨.bl true,M,O,rfl,G⟩
def wS (ha:PE X a ta):PE X (.UnaryOp .Not a pos) (zp ta):=by
 intro ac s σ H Q I h;refine UnaryOp_ (bV (ha ac s σ H _ I h) λv s1 ⟨x,M,O,T,G⟩=>?_);obtain⟨c,rfl,G⟩:=G;cases T
 exact not_of (wpAny_truthy_bool ⟨.bl (!c),M,O,rfl,G⟩)
end
def fz (K:Frag)(H:Hp)(a:Addr)(xs:List V):Prop :=
 Rd H a (.lst xs) ∨
  ∃(o:Obj)(its:AV)(n:Nat),K.lookup a=some o/\o.cls=.type "list"/\o.dict=none/\o.data=.seq its n/\its.size<=sizeLine/\aX xs its.toList
def eS (K:Frag)(H:Hp)(a:Addr)(xs:List V):Prop :=
 Rd H a (.tup xs) ∨
  ∃(o:Obj)(its:AV)(n:Nat),K.lookup a=some o/\o.cls=.type "tuple"/\o.data=.seq its n/\its.size<=sizeLine/\aX xs its.toList
noncomputable def BM:Value->Option V
 |.none=>some .non
 |.bool b=>some (.bl b)
 |.int i _=>some (.int i)
 |.str x _=>some (.str x)
 |.bytes b _=>some (.byt b)
 |.float b _=>some (.flt b)
 |.ref a=>some (.ref a)
 |.type n=>some (.ty n)
 |_=>none
def aT.abs (r:aT x u):BM u=some x:=by
 cases x with
 |non=>cases r;rfl
 |bl _=>cases r;rfl
 |int _=>obtain⟨t,rfl⟩:=r;rfl
 |str _=>obtain⟨t,rfl⟩:=r;rfl
 |byt _=>obtain⟨t,rfl⟩:=r;rfl
 |flt _=>obtain⟨t,rfl⟩:=r;rfl
 |ref _=>cases r;rfl
 |ty _=>cases r;rfl
def aT.inj (r:aT x u)(q:aT y u):x=y:=vK (r.abs.symm.trans q.abs)
theorem aX.inj:∀ {xs ys:List V}{us:LU},aX xs us->aX ys us->xs=ys
 |_,_,_,.nil,.nil=>rfl
 |_,_,_,.cons r t,.cons G t'=>by rw[r.inj G,aX.inj t t']
section
variable {X:Cx}{ac:AO}{σ:St}{H:Hp}{s:Shared}{a:Addr}{xs ys:List V}
def fz.of {K:Frag}(h:H a=some (.lst xs)):fz K H a xs:=.inl (.inl h)
def eS.of {K:Frag}(h:H a=some (.tup xs)):eS K H a xs:=.inl (.inl h)
def Inv.list (I:Inv X ac σ H s)(h:fz X.K H a xs):∃its:LU,aX xs its/\PlainL s.heap a its.toArray/\xs.length<=sizeLine:=by
 rcases h with h|⟨o,its,n,hk,hc,hd,hs,hz,r⟩
 ·obtain⟨z,its,n,r,e⟩:=h.ok I.hok;exact⟨its,r,⟨_,n,e,rfl,rfl,rfl⟩,z⟩
 ·refine⟨its.toList,r,⟨o,n,I.kIn a o hk,hc,hd,by simpa using hs⟩,?_⟩;have e:=r.length;simp only[Array.length_toList]at e;omega
def Inv.tuple (I:Inv X ac σ H s)(h:eS X.K H a xs):∃its:LU,aX xs its/\IsTup s.heap a its.toArray/\xs.length<=sizeLine:=by
 rcases h with h|⟨o,its,n,hk,hc,hs,hz,r⟩
 ·obtain⟨z,its,r,p⟩:=h.ok I.hok;exact⟨its,r,p,z⟩
 ·refine⟨its.toList,r,⟨o,I.kIn a o hk,hc,n,by simpa using hs⟩,?_⟩;have e:=r.length;simp only[Array.length_toList]at e;omega
def Inv.list_inj (I:Inv X ac σ H s)(h:fz X.K H a xs)(h':fz X.K H a ys):xs=ys:=by
 obtain⟨its,r,⟨o,n,e,_,_,d⟩,_⟩:=I.list h;obtain⟨its',M,⟨o',O,G,_,_,d'⟩,_⟩:=I.list h';rw[e]at G;cases G;rw[d]at d';injection d' with d1 _;have:its=its':=by simpa using congrArg Array.toList d1
 subst this;exact r.inj M
def Inv.tuple_inj (I:Inv X ac σ H s)(h:eS X.K H a xs)(h':eS X.K H a ys):xs=ys:=by
 obtain⟨its,r,⟨o,e,_,n,d⟩,_⟩:=I.tuple h;obtain⟨its',M,⟨o',G,_,O,d'⟩,_⟩:=I.tuple h';rw[e]at G;cases G;rw[d]at d';injection d' with d1 _;have:its=its':=by simpa using congrArg Array.toList d1
 subst this;exact r.inj M
end
abbrev Cx.wish (X:Cx)(E:QV):Cx:={ X with xe:=E }
abbrev Cx.nox (X:Cx):Cx:=X.wish λ_ _=>False
def Cx.Ok.wish {X:Cx}(ok:X.Ok)(E:QV):(X.wish E).Ok :=
 ⟨ok.mod,ok.kind,ok.glob,ok.blt,ok.above,ok.inj,ok.has,ok.cab,ok.hd,ok.frames,ok.stk,ok.exf,ok.bs,ok.bsz,ok.noex,ok.exfs,ok.funs,ok.frf⟩
def Cx.Ok.unwish {X:Cx}{E:QV}(ok:(X.wish E).Ok):X.Ok :=
 ⟨ok.mod,ok.kind,ok.glob,ok.blt,ok.above,ok.inj,ok.has,ok.cab,ok.hd,ok.frames,ok.stk,ok.exf,ok.bs,ok.bsz,ok.noex,ok.exfs,ok.funs,ok.frf⟩
section
variable {X:Cx}{ac:AO}{σ:St}{H:Hp}{s:Shared}{E:QV}
def Inv.wish (I:Inv X ac σ H s)(E:QV):Inv (X.wish E) ac σ H s:=⟨I.ok.wish E,I.os,I.bare,I.base,I.loc,I.cell,I.free,I.freeC,I.pin,I.hok,I.len⟩
def Inv.unwish (I:Inv (X.wish E) ac σ H s):Inv X ac σ H s:=⟨I.ok.unwish,I.os,I.bare,I.base,I.loc,I.cell,I.free,I.freeC,I.pin,I.hok,I.len⟩
def SP.unwish (h:SP (X.wish E) ac D f s'):SP X ac D f s':=by
 cases f with
 |next=>obtain⟨G,H',I,q⟩:=h;exact⟨G,H',I.unwish,q⟩
 |brk=>obtain⟨G,H',I,q⟩:=h;exact⟨G,H',I.unwish,q⟩
 |cont=>obtain⟨G,H',I,q⟩:=h;exact⟨G,H',I.unwish,q⟩
 |ret u=>obtain⟨v,G,H',I,r,q⟩:=h;exact⟨v,G,H',I.unwish,r,q⟩
def PE.nox (h:PE X.nox e t):PE X e t:=λac s σ H Q I hw=>
 wpAny_mono (h ac s σ H Q (I.wish _) hw) (λ_ _ ⟨v,H',G,r,q⟩=>⟨v,H',G.unwish,r,q⟩) λ_ _ z=>False.elim z
def PT.nox (h:PT X.nox e t):PT X e t:=λac s σ H Q I hw=>
 wpAny_mono (h ac s σ H Q (I.wish _) hw) (λ_ _ ⟨H',G,q⟩=>⟨H',G.unwish,q⟩) λ_ _ z=>False.elim z
def lr.nox {st:List Stmt}{t:TS}(h:lr X.nox st t):lr X st t:=λac s σ H D I hw=>
 wpAny_mono (h ac s σ H D (I.wish _) hw) (λ_ _ q=>q.unwish) λ_ _ z=>False.elim z
end
section
variable {X:Cx}{st:Stmt}{aW:List Stmt}{t u:TS}{e:Expr}{te:TE}{pos:Pos}
def vL:TS:=λD σ H=>D.nx σ H
def zr (t u:TS):TS:=λD σ H=>t { D with nx:=u D } σ H
def tU:lr X [] vL:=λ_ _ σ H _ I h=>wpAny_execs_nil ⟨σ,H,I,h⟩
def qV (h1:PS X st t)(h2:lr X aW u):lr X (st::aW) (zr t u):=by
 intro ac s σ H D I h;refine wpAny_execs_cons (bV (h1 ac s σ H { D with nx:=u D } I h) λf s1 q=>?_);cases f with
 |next=>
  obtain⟨G,H',M,q⟩:=q;exact h2 ac s1 G H' D M q
 |ret v=>exact q
 |brk=>exact q
 |cont=>exact q
def tV (h1:PS X st t):lr X [st] t:=by
 intro ac s σ H D I h;refine wpAny_execs_cons (bV (h1 ac s σ H D I h) λf s1 q=>?_);cases f with
 |next=>exact wpAny_execs_nil q
 |ret v=>exact q
 |brk=>exact q
 |cont=>exact q
def Inv.quiet (I:Inv X ac σ H s):interactive X.env=false:=by simp[interactive,I.ok.kind]
def zt (te:TE):TS:=λD σ H=>te σ H λ_ G=>D.nx σ G
def tW (he:PE X e te)(hs:swapsWith e none pos.line X.env=pure false:=by rfl):PS X (.Expr e pos) (zt te):=by
 intro ac s σ H D I h;exact wpAny_Expr_any (bV (he ac s σ H _ I h) λv s1 ⟨x,G,M,T,O⟩=>⟨σ,G,M,O⟩) I.quiet hs
def wT (te:TE):TS:=λD σ H=>te σ H D.rt
def qW (he:PE X e te):PS X (.Return (some e) pos) (wT te):=by
 intro ac s σ H D I h;exact wpAny_Return_some (bV (he ac s σ H _ I h) λv s1 ⟨x,G,M,O,T⟩=>⟨x,σ,G,M,O,T⟩)
def zu (c:TT)(t u:TS):TS:=λD σ H=>c σ H λb G=>if b=true then t D σ G else u D σ G
def zv {c:Expr}{a b:List Stmt}{G:TT}(hc:PT X c G)(ha:lr X a t)(hb:lr X b u):PS X (.If c a b pos) (zu G t u):=by
 intro ac s σ H D I h;refine wpAny_If (bV (hc ac s σ H _ I h) λd s1 ⟨M,O,T⟩=>?_);cases d with
 |true=>exact ha ac s1 σ M D O T
 |false=>exact hb ac s1 σ M D O T
end
abbrev TG:=V->St->Hp->(St->Hp->Prop)->Prop
abbrev vM:=List V->St->Hp->(St->Hp->Prop)->Prop
def PG (X:Cx)(G:Expr)(t:TG):Prop :=
 ∀(ac:AO)(s:Shared)(σ:St)(H:Hp)(v:V)(u:Value)(Q:St->Hp->Prop),Inv X ac σ H s->aT v u->t v σ H Q ->
  wq X (assign G X.env u) (λ_ O=>∃M H',Inv X ac M H' O/\Q M H') X.xe s
def zw (X:Cx)(M:QD)(t:vM):Prop :=
 ∀(ac:AO)(s:Shared)(σ:St)(H:Hp)(vs:List V)(us:LU)(Q:St->Hp->Prop),Inv X ac σ H s->aX vs us->t vs σ H Q ->
  wq X (assignInOrder ((assignEach M X.env).map (·.2)) us) (λ_ O=>∃G H',Inv X ac G H' O/\Q G H') X.xe s
abbrev wU:=V->V->V->Hp->(Hp->Prop)->Prop
def zx (X:Cx)(t:wU):Prop :=
 ∀(ac:AO)(s:Shared)(σ:St)(H:Hp)(o i v:V)(G iv u:Value)(Q:Hp->Prop),Inv X ac σ H s->aT o G->aT i iv->aT v u->t o i v H Q ->
  wq X (setItem G iv u) (λ_ M=>∃H',Inv X ac σ H' M/\Q H') X.xe s
section
variable {X:Cx}{pos:Pos}
def gu (i:Nat):TG:=λv σ H Q=>Q (σ.set i (some v)) H
def oQ (G:X.N.Nodup)(hi:X.N[i]? = some x)(hx:vG X.env.scope x)(M:X.fn x=true∨X.env.scope.names.lookup x=some .local:=by first|exact .inl rfl|exact .inr rfl|assumption):PG X (.Name x pos) (gu i):=by
 intro ac s σ H v u Q I r h;exact wpAny_assign_Name (lV I G hi hx r (λT O=>⟨_,H,O,h⟩) M)
def zy:vM:=λvs σ H Q=>vs=[]/\Q σ H
def vN (t:TG)(u:vM):vM:=λvs σ H Q=>∃v r,vs=v::r/\t v σ H λG H'=>u r G H' Q
def lu:zw X [] zy:=by
 intro ac s σ H vs us Q I r h;obtain⟨e,h⟩:=h;subst e;cases r
 exact assignInOrder_nil ⟨σ,H,I,h⟩
def dW {e:Expr}{es:QD}{t:TG}{u:vM}(h1:PG X e t)(h2:zw X es u)
  (hs:(assignEach (e::es) X.env).map (·.2)=assign e X.env::(assignEach es X.env).map (·.2):=by rfl):zw X (e::es) (vN t u):=by
 intro ac s σ H vs us Q I r h;obtain⟨v,vr,M,h⟩:=h;subst M;cases r with
 |cons r O=>
  rw[hs];refine assignInOrder_cons (bV (h1 ac s σ H _ _ _ I r h) λ_ s1 ⟨G,T,U,q1⟩=>?_);exact h2 ac s1 G T _ _ Q U O q1
def z0 (K:Frag)(n:Nat)(t:vM):TG:=λv σ H Q=>∃a xs,v=.ref a/\eS K H a xs/\xs.length=n/\t xs σ H Q
def qX (hc:X.calm=true)(h:zw X es t)
  (hn:(assignEach es X.env).length=n:=by rfl) (G:(assignEach es X.env).findIdx? (·.1)=none:=by rfl):PG X (.Tuple es k pos) (z0 X.K n t):=by
 intro ac s σ H v u Q I r hw;obtain⟨a,xs,O,hq,hl,hw⟩:=hw;subst O;cases r
 obtain⟨its,M,T,hz⟩:=I.tuple hq;refine assign_Tuple_tuple (I.ok.hd hc) T (by simp[hn,←hl,M.length]) G λh' hx=>?_;have U:Inv X ac σ H { s with heap:=h' }:=I.kept (t':=s.toks) λb o e=>hx b o (vS (vX e)) e;exact h ac _ σ H xs _ Q U (by simpa using M) hw
def BN (to ti:TE)(t:wU):TG:=λv σ H Q=>to σ H λo G=>ti σ G λi H2=>t o i v H2 λM=>Q σ M
def qY {o i:Expr}{to ti:TE}{t:wU}(M:PE X o to)(hi:PE X i ti)(hs:zx X t)
  (ha:∀v,assign (.Subscript o i pos) X.env v=(do
   let G ←holding [v] (eval o X.env)
   let iv ←holding [v,G] (eval i X.env)
   standAt pos
   holding [v,G,iv] (setItem G iv v)
   release [v,G,iv] []):=by intro _;rfl):PG X (.Subscript o i pos) (BN to ti t):=by
 intro ac s σ H v u Q I r h;rw[ha];refine wX (wpAny_holding (bV (M ac s σ H _ I h) λG s1 ⟨x,O,T,U,q1⟩=>?_));refine wX (wpAny_holding (bV (hi ac s1 σ O _ T q1) λiv s2 ⟨y,H2,I2,r2,q2⟩=>?_));refine wX (wpAny_standAt (wX (wpAny_holding (bV (hs ac s2 σ H2 x y v G iv u _ I2 U r2 r q2) λ_ s3 ⟨H3,I3,q3⟩=>?_))));exact wpAny_release ⟨σ,H3,I3,q3⟩
def qi (G:TE)(g:TG):TS:=λD σ H=>G σ H λx M=>g x σ M D.nx
def nB {tg e:Expr}{G:TE}{g:TG}(he:PE X e G)(M:PG X tg g)(hs:swapsWithSole [tg] e pos.line X.env=pure false:=by rfl)(hw:swappedStores [tg] e X.env=pure none:=by rfl)
  (h1:(assignEach [tg] X.env).map (·.2)=[assign tg X.env]:=by rfl):PS X (.Assign [tg] e pos) (qi G g):=by
 intro ac s σ H D I h;refine wpAny_Assign_stores (bV (he ac s σ H _ I h) λv s1 ⟨x,O,T,U,q1⟩=>?_) hs hw;rw[h1];exact bV (M ac s1 σ O x v _ T U q1) λ_ s2 q=>q
def qZ {i:Nat}{x:Str}{e:Expr}{M:TE}{G:Pos}(O:X.N.Nodup)(hi:X.N[i]? = some x)(hx:vG X.env.scope x)(he:PE X e M)(hs:swapsWith e (some (.Name x G)) pos.line X.env=pure false:=by rfl)(T:X.fn x=true∨X.env.scope.names.lookup x=some .local:=by first|exact .inl rfl|exact .inr rfl|assumption):
  PS X (.Assign [.Name x G] e pos) (qi M (gu i)):=by
 intro ac s σ H D I h;refine wpAny_Assign_Name (bV (he ac s σ H _ I h) λv s1 ⟨y,U,I1,r1,q1⟩=>?_) hs;exact lV I1 O hi hx r1 (λs2 I2=>⟨_,U,I2,q1⟩) T
end
structure It where
 go:Nat->Hp->Prop
 yld:Nat->Hp->V->Hp->Prop
 stop:Nat->Hp->Prop
def jg (X:Cx)(ac:AO)(H:Hp)(b:Addr):Prop :=
 H b=none/\b≠X.env.locals/\b∉X.fs/\(b∈X.ex∨X.s₀.heap.objs.size<=b)/\(∀x c,X.env.cells.lookup x=some c->c≠b)/\∀p∈X.pn++ac,p.1≠b
def Inv.fpOk (I:Inv X ac σ H s)(hb:s.heap.objs.size<=b)(hn:H' b=none):jg X ac H' b:=by
 refine⟨hn,ne_of_gt (vQ I.lt hb),I.nofs hb,.inr (vR I.sz hb),λx c e z=>?_,λp hp z=>?_⟩
 ·obtain⟨v,q⟩:=I.cell x c e;exact absurd (vQ q.lt (by rw[z];exact hb)) (lt_irrefl _)
 ·exact absurd (vQ (vX (I.pin p hp).1) (by rw[z];exact hb)) (lt_irrefl _)
structure Turn (P:Program)(w:World)(K:Frag)(tg:Expr)(J:It)(fp:List Addr)(it:Addr)(tn:Nat->Heap->Prop):Prop where
 mem:it∈fp
 obj:∀i h,tn i h->∀b∈fp,∃o,h.get? b=some o/\∀v,o.data≠.cell v
 keep:∀i h h',tn i h->(∀b∈fp,∀o,h.get? b=some o->h'.get? b=some o)->tn i h'
 item:∀(X:Cx),X.prog=P->X.w=w->X.K=K->X.calm=true->∀(i:Nat)(ac:List (Addr×Obj))(s:Shared)(σ:St)(H:Hp)(E:Value->Shared->Prop),Inv X ac σ H s->(∀b∈fp,jg X ac H b)->tn i s.heap->J.go i H ->
  wpAny (model P w) X.A (pyNext (.ref it)) (λr s1=>∃u,r=some u /\
   wpAny (model P w) X.A (letOwnedTupleGo tg (.ref it) u) (λ_ s2=>∃x H',Inv X ac σ H' s2/\aT x u/\J.yld i H x H'/\tn (i+1) s2.heap/\∀b∈fp,H' b=none) E s1) E s
 done:∀(X:Cx),X.prog=P->X.w=w->X.K=K->X.calm=true->∀(i:Nat)(ac:List (Addr×Obj))(s:Shared)(σ:St)(H:Hp)(E:Value->Shared->Prop),Inv X ac σ H s->(∀b∈fp,jg X ac H b)->tn i s.heap->J.stop i H ->
  wpAny (model P w) X.A (pyNext (.ref it)) (λr s1=>r=none/\Inv X ac σ H s1) E s
 self:∀(A:Around)(i:Nat)(s:Shared)(Q:Value->Shared->Prop)(E:Value->Shared->Prop),tn i s.heap->Q (.ref it) s->wpAny (model P w) A (pyIter (.ref it)) Q E s
abbrev TI:=St->Hp->(It->Hp->Prop)->Prop
def De (X:Cx)(ac:AO)(σ:St)(tg:Expr)(R:It->Hp->Prop)(G:Value)(s2:Shared):Prop :=
 ∃(it:Addr)(fp:List Addr)(tn:Nat->Heap->Prop)(J:It)(H':Hp),G=.ref it/\Inv X ac σ H' s2/\Turn X.prog X.w X.K tg J fp it tn/\tn 0 s2.heap/\(∀b∈fp,jg X ac H' b)/\R J H'
def PI (X:Cx)(tg G:Expr)(M:TI):Prop :=
 ∀(ac:AO)(s:Shared)(σ:St)(H:Hp)(R:It->Hp->Prop),Inv X ac σ H s->M σ H R ->
  wq X (eval G X.env) (λv s1=>wq X (pyIter v) (De X ac σ tg R) X.xe s1) X.xe s
def lX (O:s.heap.get? it=some o)(hc:o.cls=.type n)(hd:o.data=.fields vs)
    (hn:["enumerate","zip","dict_itemiterator","dict_reverseitemiterator","odict_iterator","itertools.zip_longest","itertools.pairwise"].contains n=false) (G:Q () s):wpAny M A (letOwnedTupleGo tg (.ref it) u) Q E s:=by
  unfold letOwnedTupleGo;cases tg<;>first
    |exact wY G
    | (cases u<;>first
        |exact wY G
        | (refine wX (wpAny_load O ?_)
           rw[hc,hd]
           show wpAny M A (if(["enumerate","zip","dict_itemiterator","dict_reverseitemiterator","odict_iterator","itertools.zip_longest","itertools.pairwise"].contains n && vs[0]? == some (rawInt _))=true then _ else _) Q E s
           rw[if_neg (by intro h;rw[hn,Bool.false_and]at h;cases h)]
           exact wY G))
noncomputable def Df (K:Frag)(a:Addr):It :=
 ⟨λi H=>∃xs x,fz K H a xs/\xs[i]? = some x,λi H x H'=>H'=H/\∀xs,fz K H a xs->xs[i]? = some x,λi H=>∃xs,fz K H a xs/\xs.length<=i⟩
noncomputable def Dg (K:Frag)(a:Addr):It :=
 ⟨λi H=>∃xs x,eS K H a xs/\xs[i]? = some x,λi H x H'=>H'=H/\∀xs,eS K H a xs->xs[i]? = some x,λi H=>∃xs,eS K H a xs/\xs.length<=i⟩
noncomputable def Bt (lo:Int)(n:Nat):It:=⟨λi _=>i<n,λi H x H'=>H'=H/\x=.int (lo+i),λi _=>n<=i⟩
def qj {P:Program}{w:World}{K:Frag}{tg:Expr}(a it:Addr):Turn P w K tg (Df K a) [it] it (λi h=>h.IsListIter it a i) where
 mem:=by simp
 obj:=λi h st b hb=>by
  have e:b=it:=by simpa using hb
  subst e;obtain⟨o,e,c,d⟩:=st;exact⟨o,e,λv z=>by rw[d]at z;cases z⟩
 keep:=λi h h' st k=>st.at λo e=>k it (by simp) o e
 item:=by
  intro X O hw T hc i ac s σ H E I M st U;subst O hw T;obtain⟨xs,x,hq,hx⟩:=U;obtain⟨its,rv,p,hz⟩:=I.list hq;obtain⟨u,hu,ru⟩:=rv.get hx;obtain⟨f0,f1,f2,f3,f4,f5⟩:=M it (by simp);refine wpAny_pyNext_list_item st p.isList (x:=u) (by simpa using hu) λh' G sb=>?_;have I1:Inv X ac σ H { s with heap:=h' }:=I.turned (t':=s.toks) (λb o hb e=>(sb.2 b hb).trans e) f0 f1 f3 f4 f5;obtain⟨o,e,c,d⟩:=id G;exact⟨u,rfl,lX (s:={ s with heap:=h' }) e c d (by decide) ⟨x,H,I1,ru,⟨rfl,λys hy=>by rw[I.list_inj hy hq];exact hx⟩,G,λb hb=>(M b hb).1⟩⟩
 done:=by
  intro X O hw T hc i ac s σ H E I M st U;subst O hw T;obtain⟨xs,hq,hx⟩:=U;obtain⟨its,rv,p,hz⟩:=I.list hq;obtain⟨f0,f1,f2,f3,f4,f5⟩:=M it (by simp);have hl:=rv.length;exact wpAny_pyNext_list_end (I.ok.hd hc) st p.isList (by simp;omega) λh' eb=>⟨rfl,I.turned (t':=s.toks) (λb o hb e=>eb b o hb e) f0 f1 f3 f4 f5⟩
 self:=λ_ _ _ _ _ st h=>wpAny_pyIter_listiter st h
def nD {P:Program}{w:World}{K:Frag}{tg:Expr}(a it:Addr):Turn P w K tg (Dg K a) [it] it (λi h=>h.IsTupleIter it a i) where
 mem:=by simp
 obj:=λi h st b hb=>by
  have e:b=it:=by simpa using hb
  subst e;obtain⟨o,e,c,d⟩:=st;exact⟨o,e,λv z=>by rw[d]at z;cases z⟩
 keep:=λi h h' st k=>st.at λo e=>k it (by simp) o e
 item:=by
  intro X O hw T hc i ac s σ H E I M st U;subst O hw T;obtain⟨xs,x,hq,hx⟩:=U;obtain⟨its,rv,p,hz⟩:=I.tuple hq;obtain⟨u,hu,ru⟩:=rv.get hx;obtain⟨f0,f1,f2,f3,f4,f5⟩:=M it (by simp);refine wpAny_pyNext_tuple_item st (show s.heap.IsTuple a its.toArray from p) (x:=u) (by simpa using hu) λh' G sb=>?_;have I1:Inv X ac σ H { s with heap:=h' }:=I.turned (t':=s.toks) (λb o hb e=>(sb.2 b hb).trans e) f0 f1 f3 f4 f5;obtain⟨o,e,c,d⟩:=id G;exact⟨u,rfl,lX (s:={ s with heap:=h' }) e c d (by decide) ⟨x,H,I1,ru,⟨rfl,λys hy=>by rw[I.tuple_inj hy hq];exact hx⟩,G,λb hb=>(M b hb).1⟩⟩
 done:=by
  intro X O hw T hc i ac s σ H E I M st U;subst O hw T;obtain⟨xs,hq,hx⟩:=U;obtain⟨its,rv,p,hz⟩:=I.tuple hq;obtain⟨f0,f1,f2,f3,f4,f5⟩:=M it (by simp);have hl:=rv.length;exact wpAny_pyNext_tuple_end (I.ok.hd hc) st (show s.heap.IsTuple a its.toArray from p) (by simp;omega) λh' eb=>⟨rfl,I.turned (t':=s.toks) (λb o hb e=>eb b o hb e) f0 f1 f3 f4 f5⟩
 self:=λ_ _ _ _ _ st h=>wpAny_pyIter_tupleiter st h
def nE {P:Program}{w:World}{K:Frag}{tg:Expr}(it:Addr)(lo:Int)(n:Nat):Turn P w K tg (Bt lo n) [it] it (λi h=>IsRangeIter h it (lo+(i:Nat)*1) ((n:Int) - (i:Nat)) 1) where
 mem:=by simp
 obj:=λi h st b hb=>by
  have e:b=it:=by simpa using hb
  subst e;exact⟨_,st,λv z=>by
   have z':Data.fields _=Data.cell v:=z;cases z'⟩
 keep:=λi h h' st k=>k it (by simp) _ st
 item:=by
  intro X O hw T hc i ac s σ H E I M st U;subst O hw T;obtain⟨f0,f1,f2,f3,f4,f5⟩:=M it (by simp);have W:=Walks.range (prog:=X.prog) (w:=X.w) (I.ok.hd hc) it lo 1 n;refine W.item i s _ _ U st λv h' tk hv G kk=>?_;obtain⟨t,rfl⟩:=hv;have I1:Inv X ac σ H { s with heap:=h',toks:=tk }:=I.turned (λb o hb e=>kk b o (by simpa using hb) e) f0 f1 f3 f4 f5;refine⟨_,rfl,lX (s:={ s with heap:=h',toks:=tk }) (n:="range_iterator") G rfl rfl (by decide) ⟨.int (lo+i),H,I1,⟨t,?_⟩,⟨rfl,rfl⟩,G,λb hb=>(M b hb).1⟩⟩;rw[Int.mul_one]
 done:=by
  intro X O hw T hc i ac s σ H E I M st U;subst O hw T;obtain⟨f0,f1,f2,f3,f4,f5⟩:=M it (by simp);exact wpAny_pyNext_range_end (I.ok.hd hc) st (by have:n<=i:=U;omega) λh' eb=>⟨rfl,I.turned (t':=s.toks) (λb o hb e=>eb b o hb e) f0 f1 f3 f4 f5⟩
 self:=λ_ _ _ _ _ st h=>wpAny_pyIter_rangeiter st h
section
variable {X:Cx}{tg:Expr}
def z4 (K:Frag)(tl:TE):TI:=λσ H R=>tl σ H λx G=>∃a,x=.ref a/\(∃xs,fz K G a xs)/\R (Df K a) G
def BO (K:Frag)(tl:TE):TI:=λσ H R=>tl σ H λx G=>∃a,x=.ref a/\(∃xs,eS K G a xs)/\R (Dg K a) G
def tX {l:Expr}{tl:TE}(hl:PE X l tl):PI X tg l (z4 X.K tl):=by
 intro ac s σ H R I h;refine bV (hl ac s σ H _ I h) λv s1 ⟨x,M,G,O,T⟩=>?_;obtain⟨a,e,⟨xs,hq⟩,q⟩:=T;subst e;cases O
 obtain⟨its,U,p,hz⟩:=G.list hq;refine wpAny_pyIter_list p.isList ?_;refine⟨s1.heap.objs.size,[s1.heap.objs.size],_,_,M,rfl,G.kept (t':=s1.toks) λb o e=>vZ _ e,qj a _,⟨_,vY _ rfl,rfl,rfl⟩,λb hb=>?_,q⟩;have e:b=s1.heap.objs.size:=by simpa using hb
 subst e;exact G.fpOk (vT _) (G.hok.fresh (vT _))
def wV {l:Expr}{tl:TE}(hl:PE X l tl):PI X tg l (BO X.K tl):=by
 intro ac s σ H R I h;refine bV (hl ac s σ H _ I h) λv s1 ⟨x,M,G,O,T⟩=>?_;obtain⟨a,e,⟨xs,hq⟩,q⟩:=T;subst e;cases O
 obtain⟨its,U,p,hz⟩:=G.tuple hq;refine wpAny_pyIter_tuple (show s1.heap.IsTuple a its.toArray from p) ?_;refine⟨s1.heap.objs.size,[s1.heap.objs.size],_,_,M,rfl,G.kept (t':=s1.toks) λb o e=>vZ _ e,nD a _,⟨_,vY _ rfl,rfl,rfl⟩,λb hb=>?_,q⟩;have e:b=s1.heap.objs.size:=by simpa using hb
 subst e;exact G.fpOk (vT _) (G.hok.fresh (vT _))
def ra {ac:AO}{σ:St}{H:Hp}{s:Shared}{R:It->Hp->Prop}{E:QV}{lo hi:Int}{t u v:Tok}{G:Nat}(I:Inv X ac σ H s)(h1 : -(2 ^ 62)<=lo)(h2:lo<2 ^ 62)(h3 : -(2 ^ 62)<=hi)(h4:hi<2 ^ 62)
  (q:R (Bt lo (hi - lo).toNat) H):wq X (pyIter (.ref s.heap.objs.size)) (De X ac σ tg R) E { s with heap:=s.heap.push { cls:=.type "range",data:=.fields #[.int lo t,.int hi u,.int 1 v] },toks:=G }:=by
 refine wpAny_pyIter_range (IsRange.new ..) (small_one h1 h2 h3 h4) ?_;have M:Inv X ac σ H { s with heap:=s.heap.push { cls:=.type "range",data:=.fields #[.int lo t,.int hi u,.int 1 v] },toks:=G }:=I.kept λb o e=>vZ _ e;refine⟨(s.heap.push { cls:=.type "range",data:=.fields #[.int lo t,.int hi u,.int 1 v] }).objs.size,[(s.heap.push { cls:=.type "range",data:=.fields #[.int lo t,.int hi u,.int 1 v] }).objs.size],_,_,H,rfl,
  M.kept (t':=G) λb o e=>vZ _ e,nE _ lo (hi - lo).toNat,?_,λb hb=>?_,q⟩
 ·have O:lo+((0:Nat):Int)*1=lo:=by simp
  have T:(((hi - lo).toNat:Nat):Int) - ((0:Nat):Int)=Builtin.Range.rangeSize lo hi 1:=by rw[rangeSize_one];split<;>omega
  show IsRangeIter _ _ (lo+((0:Nat):Int)*1) ((((hi - lo).toNat:Nat):Int) - ((0:Nat):Int)) 1;rw[O,T];exact vY _ rfl
 ·have e:b=(s.heap.push { cls:=.type "range",data:=.fields #[.int lo t,.int hi u,.int 1 v] }).objs.size:=by simpa using hb
  subst e;exact M.fpOk (vT _) (M.hok.fresh (vT _))
def z5 (ta:TA):TI:=λσ H R=>ta σ H λvs G=>∃j:Int,vs=[.int j]/\-(2 ^ 62)<=j/\j<2 ^ 62/\R (Bt 0 j.toNat) G
def qk {a:Expr}{ta:TA}{p G:Pos}(O:Gl X "range")(hm:X.mg "range" = none)(ha:PA X [a] ta)(hs:starEach [a] X.env=[(false,eval a X.env)]:=by rfl):PI X tg (.Call (.Name "range" p) [a] [] G) (z5 ta):=by
 intro ac s σ H R I h;refine Call_ (jw I O hm boot_range (PyProof.Rows.callWith_type1 (bV (ha G ac s σ H _ I h) λus s1 ⟨vs,H1,T,U,M⟩=>?_) hs rfl));obtain⟨j,e,M,q2,q⟩:=M;subst e;cases U with
 |cons r rr=>
  cases rr
  obtain⟨t,rfl⟩:=r;exact call_range_1 (ra T (by omega) (by omega) M q2 (by simpa using q))
def wW (T:TI)(g:TG)(tb:TS):TS:=λD σ H=>T σ H λJ U=>∃W:Nat->Nat->St->Hp->Prop,(∃m,W 0 m σ U)/\∀i m σ H,W i m σ H ->
 (J.stop i H/\D.nx σ H)∨(J.go i H/\∃N:St->Hp->Prop,(∀G H',N G H'->∃O,O<m/\W (i+1) O G H')/\∀x H',J.yld i H x H'->g x σ H' λM H2=>tb { D with nx:=N,ct:=N,bk:=D.nx } M H2)
def ik (fp:List Addr)(h:Heap):AO:=fp.filterMap λb=>(h.get? b).map λo=>(b,o)
def fB {fp:List Addr}{h:Heap}{b:Addr}{o:Obj}(hb:b∈fp)(e:h.get? b=some o):(b,o)∈ik fp h:=mem_filterMap.mpr ⟨b,hb,by rw[e];rfl⟩
def ql (hp:p∈ik fp h):p.1∈fp/\h.get? p.1=some p.2:=by
 obtain⟨b,hb,e⟩:=mem_filterMap.mp hp;cases q:h.get? b with
 |none=>rw[q]at e;cases e
 |some o=>
  rw[q]at e;have G:(b,o)=p:=vK e;subst G;exact⟨hb,q⟩
def Inv.pinned (I:Inv X ac σ H s)(M:∀b∈fp,jg X ac H b)(O:∀b∈fp,∃o,s.heap.get? b=some o/\∀v,o.data≠.cell v):Inv X (ac++ik fp s.heap) σ H s :=
 I.pins_of λp hp=>(mem_append.mp hp).elim (λz=>I.pin p (mY _ z)) λz=>by
  obtain⟨hb,e⟩:=ql z;obtain⟨f0,f1,f2,_⟩:=M p.1 hb;obtain⟨o,G,d⟩:=O p.1 hb;rw[e]at G;cases G;exact⟨e,f0,f1,f2,d⟩
def Inv.unpinned (I:Inv X (ac++pl) σ H s):Inv X ac σ H s:=I.pins_of λp hp=>I.pin p (mY _ (List.mem_append_left _ hp))
def rb {M:Expr}{body:List Stmt}{wi:TI}{g:TG}{tb:TS}{pos:Pos}(hp:PassesOwn (model X.prog X.w) X.A X.env X.xe)(hc:X.calm=true)(hi:PI X tg M wi)(hg:PG X tg g)(hb:lr X body tb)
  (hs:∀x,foldedSetIterable M X.env x=pure x:=by intro _;rfl):PS X (.For tg M body [] pos) (wW wi g tb):=by
 intro ac s σ H D I h;refine wpAny_For (bV (hi ac s σ H _ I h) λv s1 h1=>bV h1 λD3 s2 h2=>?_) hs;obtain⟨it,fp,tn,J,H2,e,I2,T,v5,f2,W,⟨m0,w0⟩,C9⟩:=h2;subst e
 -- what stays true of the iterator's objects through the yK
 have O:∀ {H':Hp},(∀b∈fp,H' b=none)->∀b∈fp,jg X ac H' b:=λhn b hb=>⟨hn b hb,(f2 b hb).2⟩;refine codeAny_forLoop_any (λn s'=>∃i U H',Inv X ac U H' s'/\tn i s'.heap/\(∀b∈fp,H' b=none)/\W i n U H') ?_ m0 ⟨0,σ,H2,I2,v5,λb hb=>(f2 b hb).1,w0⟩;rintro n s3 ⟨i,σ3,H3,I3,D4,D5,w3⟩;rcases C9 i n σ3 H3 w3 with⟨stop,qn⟩|⟨go,N,hN,step⟩
 ·refine wpAny_passesOwn hp (bV (T.done X rfl rfl rfl hc i ac s3 σ3 H3 X.xe I3 (O D5) D4 stop) λr s4 ⟨hr,I4⟩=>?_);subst hr;exact wpAny_execs_nil ⟨σ3,H3,I4,qn⟩
 ·refine wpAny_passesOwn hp (bV (T.item X rfl rfl rfl hc i ac s3 σ3 H3 X.xe I3 (O D5) D4 go) λr s4 ⟨u,hr,h4⟩=>?_);subst hr;refine wpAny_passesOwn hp (bV h4 λ_ s5 ⟨x,H5,I5,r5,y5,CA,CB⟩=>?_);have EA:=I5.pinned (O CB) (T.obj _ _ CA);refine wpAny_passesOwn hp (bV (hg _ s5 σ3 H5 x u _ EA r5 (step x H5 y5)) λ_ s6 ⟨σ6,H6,I6,q6⟩=>?_);refine wpAny_passesOwn hp (bV (hb _ s6 σ6 H6 _ I6 q6) λf s7 q7=>?_);have again:∀ {G:St}{H7:Hp},Inv X (ac++ik fp s5.heap) G H7 s7->N G H7->∃m,m<n/\∃i U H',Inv X ac U H' s7/\tn i s7.heap/\(∀b∈fp,H' b=none)/\W i m U H':=λ{G H7} I7 n7=>by
   obtain⟨m',hm,w7⟩:=hN G H7 n7;refine⟨m',hm,i+1,G,H7,I7.unpinned,T.keep _ _ _ CA λb hb o e=>(I7.pin (b,o) (mY _ (mY _ (fB hb e)))).1,λb hb=>?_,w7⟩;obtain⟨o,e,d⟩:=T.obj _ _ CA b hb;exact(I7.pin (b,o) (mY _ (mY _ (fB hb e)))).2.1
  cases f with
  |next=>obtain⟨G,H7,I7,n7⟩:=q7;exact again I7 n7
  |cont=>obtain⟨G,H7,I7,n7⟩:=q7;exact again I7 n7
  |brk=>obtain⟨G,H7,I7,q7⟩:=q7;exact⟨G,H7,I7.unpinned,q7⟩
  |ret v=>obtain⟨x7,G,H7,I7,r7,q7⟩:=q7;exact⟨x7,G,H7,I7.unpinned,r7,q7⟩
end
abbrev R2:=V->V->Hp->VK->Prop
def cF (X:Cx)(f:Value->Value->Sem Value)(r:R2):Prop :=
 ∀(ac:AO)(s:Shared)(σ:St)(H:Hp)(x y:V)(v u:Value)(Q:VK),Inv X ac σ H s->aT x v->aT y u->r x y H Q ->
  wq X (f v u) (EP X ac σ Q) X.xe s
def z6 (X:Cx)(f:Value->Sem Value)(r:V->Hp->VK->Prop):Prop :=
 ∀(ac:AO)(s:Shared)(σ:St)(H:Hp)(x:V)(v:Value)(Q:VK),Inv X ac σ H s->aT x v->r x H Q ->
  wq X (f v) (EP X ac σ Q) X.xe s
def bT (X:Cx)(f:Value)(r:List V->Hp->VK->Prop):Prop :=
 ∀(ac:AO)(s:Shared)(σ:St)(H:Hp)(xs:List V)(us:LU)(Q:VK),Inv X ac σ H s->aX xs us->r xs H Q ->
  wq X (call f us) (EP X ac σ Q) X.xe s
def Bu (r:R2)(ta tb:TE):TE:=λσ H Q=>ta σ H λx G=>tb σ G λy H2=>r x y H2 Q
def Ee (r:V->Hp->VK->Prop)(ta:TE):TE:=λσ H Q=>ta σ H λx G=>r x G Q
def rI (C:Int->Int->Prop)(g:Int->Int->V):R2:=λx y H Q=>∃i j,x=.int i/\y=.int j/\C i j/\Q (g i j) H
def vO (g:Int->Int->V):R2:=λx y H Q=>∃i j,x=.int i/\y=.int j/\Q (g i j) H
def rU (g:Int->V):V->Hp->VK->Prop:=λx H Q=>∃i,x=.int i/\Q (g i) H
section
variable {X:Cx}{a b c:Expr}{ta tb tc:TE}{pos:Pos}
def wZ (ha:PE X a ta)(hb:PE X b tb){ac:AO}{s:Shared}{σ:St}{H:Hp}{R:V->V->Hp->Prop}(I:Inv X ac σ H s)
  (h:ta σ H λx O=>tb σ O λy H2=>R x y H2) {Q:QV}{f:Value->Value->Sem Value}
  (T:∀v u s2 x y H2,Inv X ac σ H2 s2->aT x v->aT y u->R x y H2->wq X (f v u) Q X.xe s2):
  wq X (eval a X.env) (λv G=>wq X (eval b X.env) (λu M=>wq X (f v u) Q X.xe M) X.xe G) X.xe s:=by
 refine bV (ha ac s σ H _ I h) λv s1 ⟨x,O,U,r1,q1⟩=>?_;refine bV (hb ac s1 σ O _ U q1) λu s2 ⟨y,H2,I2,r2,q2⟩=>?_;exact T v u s2 x y H2 I2 r1 r2 q2
def z8 {G:Operator}{r:R2}(M:cF X (binaryOp G) r)(ha:PE X a ta)(hb:PE X b tb):PE X (.BinOp a G b pos) (Bu r ta tb):=by
 intro ac s σ H Q I h;exact wpAny_BinOp (wZ ha hb I h λv u s2 x y H2 O T U q=>M ac s2 σ H2 x y v u Q O T U q)
def z9 {G:UnaryOp}{r:V->Hp->VK->Prop}(M:z6 X (unaryOp G) r)(ha:PE X a ta):PE X (.UnaryOp G a pos) (Ee r ta):=by
 intro ac s σ H Q I h;exact UnaryOp_ (bV (ha ac s σ H _ I h) λv s1 ⟨x,O,T,U,q1⟩=>M ac s1 σ O x v Q T U q1)
def Bv {f:Value->Value->Sem Value}{C:Int->Int->Prop}{g:Int->Int->Int}
  (rule:∀(i j:Int)(t u:Tok)(s:Shared)(Q:QV)(E:QV),C i j->Q (.int (g i j) s.toks) { s with toks:=s.toks+1 }->wq X (f (.int i t) (.int j u)) Q E s):
  cF X f (rI C λi j=>.int (g i j)):=by
 intro ac s σ H x y v u Q I G M h;obtain⟨i,j,rfl,rfl,hc,q⟩:=h;obtain⟨t,rfl⟩:=G;obtain⟨t',rfl⟩:=M;exact rule i j t t' s _ _ hc ⟨.int (g i j),H,I.tok _,⟨_,rfl⟩,q⟩
def zF {f:Value->Value->Sem Value}{g:Int->Int->Int}
  (rule:∀(i j:Int)(t u:Tok)(s:Shared)(Q:QV)(E:QV),Q (.int (g i j) s.toks) { s with toks:=s.toks+1 }->wq X (f (.int i t) (.int j u)) Q E s):
  cF X f (vO λi j=>.int (g i j)):=by
 intro ac s σ H x y v u Q I G M h;obtain⟨i,j,rfl,rfl,q⟩:=h;obtain⟨t,rfl⟩:=G;obtain⟨t',rfl⟩:=M;exact rule i j t t' s _ _ ⟨.int (g i j),H,I.tok _,⟨_,rfl⟩,q⟩
def xa {f:Value->Value->Sem Value}{g:Int->Int->Bool}
  (rule:∀(i j:Int)(t u:Tok)(s:Shared)(Q:QV)(E:QV),Q (.bool (g i j)) s->wq X (f (.int i t) (.int j u)) Q E s):
  cF X f (vO λi j=>.bl (g i j)):=by
 intro ac s σ H x y v u Q I G M h;obtain⟨i,j,rfl,rfl,q⟩:=h;obtain⟨t,rfl⟩:=G;obtain⟨t',rfl⟩:=M;exact rule i j t t' s _ _ ⟨.bl (g i j),H,I,rfl,q⟩
def zG (i j:Int):Prop:=0<j/\j<1073741824
def zH (i j:Int):Prop:=0<=j/\j<=1000000/\i.natAbs<2 ^ 64
def tY (i j:Int):Prop:=(-(2 ^ 64)<i/\i<2 ^ 64)∨(-(2 ^ 64)<j/\j<2 ^ 64)
def tY.ok (h:tY i j):IntMulOk i j:=by
 rcases h with⟨h1,h2⟩|⟨h1,h2⟩
 ·exact .of_left (intBits_le_64 h1 h2)
 ·exact .of_right (intBits_le_64 h1 h2)
def xc:cF X (binaryOp .Add) (vO λi j=>.int (i+j)):=zF λ_ _ _ _ _ _ _ q=>add_int q
def xf:cF X (binaryOp .Sub) (vO λi j=>.int (i - j)):=zF λ_ _ _ _ _ _ _ q=>sub_int q
def xg:cF X (binaryOp .Mult) (rI tY λi j=>.int (i*j)):=Bv λ_ _ _ _ _ _ _ hc q=>mul_int q hc.ok
def tZ:cF X (binaryOp .FloorDiv) (rI zG λi j=>.int (i / j)):=Bv λi j _ _ _ _ _ hc q=>by
 have h1:(0:Int)<j:=hc.1;have h2:j<1073741824:=hc.2;exact floordiv_int (by omega) (by rw[Int.fdiv_eq_ediv_of_nonneg i (by omega)];exact q) (.inl (PyProof.noPylong_small (by omega)))
def xh:cF X (binaryOp .Mod) (rI (λ_ j=>0<j) λi j=>.int (i % j)):=Bv λi j _ _ _ _ _ hc q=>by
 have h1:(0:Int)<j:=hc;exact mod_int' (by omega) (by rw[Int.fmod_eq_emod_of_nonneg i (by omega)];exact q)
def xi:cF X (binaryOp .Pow) (rI zH λi j=>.int (i ^ j.toNat)):=Bv λ_ _ _ _ _ _ _ hc q=>pow_int_small hc.1 hc.2.1 hc.2.2 q
def Ef {f:Value->Sem Value}{g:Int->Int}
  (rule:∀(i:Int)(t:Tok)(s:Shared)(Q:QV)(E:QV),Q (.int (g i) s.toks) { s with toks:=s.toks+1 }->wq X (f (.int i t)) Q E s):
  z6 X f (rU λi=>.int (g i)):=by
 intro ac s σ H x v Q I G h;obtain⟨i,rfl,q⟩:=h;obtain⟨t,rfl⟩:=G;exact rule i t s _ _ ⟨.int (g i),H,I.tok _,⟨_,rfl⟩,q⟩
def xj:z6 X (unaryOp .USub) (rU λi=>.int (-i)):=Ef λ_ _ _ _ _ q=>neg_int q
def qm:cF X (binaryOp .Add) (λx y H Q=>∃i k,x=.int i/\y=.bl k/\Q (.int (i+b2i k)) H):=by
 intro ac s σ H x y v u Q I G M h;obtain⟨i,k,rfl,rfl,q⟩:=h;obtain⟨t,rfl⟩:=G;cases M
 exact add_int_bool ⟨.int (i+b2i k),H,I.tok _,⟨_,rfl⟩,q⟩
end
section
variable {X:Cx}{a b c:Expr}{ta tb tc:TE}{pos:Pos}
def zI:cF X (compareOp .Lt) (vO λi j=>.bl (decide (i<j))):=xa λ_ _ _ _ _ _ _ q=>lt_int q
def zJ:cF X (compareOp .LtE) (vO λi j=>.bl (decide (i<=j))):=xa λ_ _ _ _ _ _ _ q=>le_int q
def zK:cF X (compareOp .Gt) (vO λi j=>.bl (decide (j<i))):=xa λ_ _ _ _ _ _ _ q=>gt_int q
def cF.or (h:cF X f r)(h':cF X f r'):cF X f (λx y H Q=>r x y H Q∨r' x y H Q):=by
 intro ac s σ H x y v u Q I G M q;rcases q with q|q
 ·exact h ac s σ H x y v u Q I G M q
 ·exact h' ac s σ H x y v u Q I G M q
def ua (G:cF X (compareOp op) r)(ha:PE X a ta)(hb:PE X b tb)(hm:behindInMarks op b=false):PE X (.Compare a [op] [b] pos) (Bu r ta tb):=by
 intro ac s σ H Q I h;exact wpAny_Compare1 (wZ ha hb I h λv u s2 x y H2 M O T q=>G ac s2 σ H2 x y v u Q M O T q) hm
def vP (t:TE):TT:=λσ H Q=>t σ H λx H'=>∃k,x=.bl k/\Q k H'
def oR {G:CmpOp}{r:R2}(M:cF X (compareOp G) r)(ha:PE X a ta)(hb:PE X b tb)(hm:behindInMarks G b=false):PT X (.Compare a [G] [b] pos) (vP (Bu r ta tb)):=by
 intro ac s σ H Q I h;refine wpAny_isTrue_Compare1 (bV (ha ac s σ H _ I h) λv s1 ⟨x,O,T,U,q1⟩=>bV (hb ac s1 σ O _ T q1) λu s2 ⟨y,H2,I2,r2,q2⟩=>
  bV (M ac s2 σ H2 x y v u _ I2 U r2 q2) λc s3 ⟨z,H3,I3,r3,k,e,q3⟩=>?_) hm
 subst e;cases r3
 exact wpAny_truthy_bool ⟨H3,I3,q3⟩
def nF (r M:R2)(ta tb tc:TE):TE:=λσ H Q=>ta σ H λx O=>tb σ O λy H2=>r x y H2 λz G=>∃k,z=.bl k /\
 (if k=true then tc σ G λT U=>M y T U Q else Q (.bl false) G)
def rd {M G:CmpOp}{r T:R2}(ho:cF X (compareOp M) r)(O:cF X (compareOp G) T)(ha:PE X a ta)(hb:PE X b tb)(hc:PE X c tc)
  (hm:lastMarks [M,G] [b,c]=false:=by with_unfolding_all rfl):PE X (.Compare a [M,G] [b,c] pos) (nF r T ta tb tc):=by
 intro ac s σ H Q I h;refine Compare_chain (bV (ha ac s σ H _ I h) λv s1 ⟨x,H1,I1,r1,q1⟩=>chain_link (bV (hb ac s1 σ H1 _ I1 q1) λu s2 ⟨y,H2,I2,U,q2⟩=>
  bV (ho ac s2 σ H2 x y v u _ I2 r1 U q2) λd s3 ⟨z,H3,I3,r3,k,e,q3⟩=>?_)) hm
 subst e;cases r3
 refine wpAny_truthy_bool ?_;cases k with
 |false=>exact ite_ff ⟨.bl false,H3,I3,rfl,q3⟩
 |true=>exact ite_tt (chain_last (bV (hc ac s3 σ H3 _ I3 q3) λw' s4 ⟨z',H4,I4,r4,q4⟩=>O ac s4 σ H4 y z' u w' Q I4 U r4 q4))
def re {M G:CmpOp}{r T:R2}(ho:cF X (compareOp M) r)(O:cF X (compareOp G) T)(ha:PE X a ta)(hb:PE X b tb)(hc:PE X c tc)
  (hm:lastMarks [M,G] [b,c]=false:=by with_unfolding_all rfl):PT X (.Compare a [M,G] [b,c] pos) (vP (nF r T ta tb tc)):=by
 intro ac s σ H Q I h;refine isTrue_chain (bV (ha ac s σ H _ I h) λv s1 ⟨x,H1,I1,r1,q1⟩=>test_link (bV (hb ac s1 σ H1 _ I1 q1) λu s2 ⟨y,H2,I2,U,q2⟩=>
  bV (ho ac s2 σ H2 x y v u _ I2 r1 U q2) λd s3 ⟨z,H3,I3,r3,k,e,q3⟩=>?_)) hm
 subst e;cases r3
 refine wpAny_truthy_bool ?_;cases k with
 |false=>
  obtain⟨k',e',q'⟩:=q3;cases e'
  exact ite_ff ⟨H3,I3,q'⟩
 |true=>
  refine ite_tt (test_last (bV (hc ac s3 σ H3 _ I3 q3) λw' s4 ⟨z',H4,I4,r4,q4⟩=>bV (O ac s4 σ H4 y z' u w' _ I4 U r4 q4) λd' s5 ⟨z2,H5,I5,r5,k2,e2,q5⟩=>?_));subst e2;cases r5
  exact wpAny_truthy_bool ⟨H5,I5,q5⟩
def im:(sizeLine:Nat)<2 ^ 63:=by rw[sizeLine_eq];decide
def nG:cF X (binaryOp .Add) (λx y H Q=>∃i j,x=.str i/\y=.str j/\i.length+j.length<=sizeLine/\Q (.str (i++j)) H):=by
 intro ac s σ H x y v u Q I G M h;obtain⟨i,j,rfl,rfl,hz,q⟩:=h;obtain⟨t,rfl⟩:=G;obtain⟨t',rfl⟩:=M;exact add_str (λt' O=>⟨.str (i++j),H,I.tok _,⟨_,rfl⟩,q⟩) hz
def ku (r:aX [x] us):∃u,us=[u]/\aT x u:=by
 cases r with
 |cons G M=>cases M;exact⟨_,rfl,G⟩
def rf (r:aX [x,y] us):∃u G,us=[u,G]/\aT x u/\aT y G:=by
 cases r with
 |cons M O=>
  cases O with
  |cons T U=>cases U;exact⟨_,_,rfl,M,T⟩
def qo (hc:X.calm=true):bT X (.builtin "max") (λxs H Q=>∃i j,xs=[.int i,.int j]/\Q (.int (if j > i then j else i)) H):=by
 intro ac s σ H xs us Q I r h;obtain⟨i,j,rfl,q⟩:=h;obtain⟨u,G,rfl,⟨t,rfl⟩,⟨t',rfl⟩⟩:=rf r;refine max_two_ints (I.ok.hd hc) λh' M k=>⟨_,H,I.kept k,?_,q⟩;by_cases hj:j > i
 ·rw[if_pos hj,if_pos hj];exact⟨_,rfl⟩
 ·rw[if_neg hj,if_neg hj];exact⟨_,rfl⟩
def qp (hc:X.calm=true):bT X (.builtin "min") (λxs H Q=>∃i j,xs=[.int i,.int j]/\Q (.int (if j<i then j else i)) H):=by
 intro ac s σ H xs us Q I r h;obtain⟨i,j,rfl,q⟩:=h;obtain⟨u,G,rfl,⟨t,rfl⟩,⟨t',rfl⟩⟩:=rf r;refine min_two_ints (I.ok.hd hc) λh' M k=>⟨_,H,I.kept k,?_,q⟩;by_cases hj:j<i
 ·rw[if_pos hj,if_pos hj];exact⟨_,rfl⟩
 ·rw[if_neg hj,if_neg hj];exact⟨_,rfl⟩
end
structure v6 (h:Heap)(x dx C:Addr)(mA:Str->Option Value):Prop where
 obj:h.get? x=some (PySem.W.instObj C dx)
 ns:h.Ns1 dx mA
 ne:dx≠x
def qq {h:Heap}{dx:Addr}{mA:SV}(n:h.Ns1 dx mA):∃od,h.get? dx=some od/\∀name,PySem.W.lookIn name od=some (mA name):=by
 obtain⟨o,es,T,M,hd,hk,_,hm⟩:=n;refine⟨o,M,λname=>?_⟩;have e:=hm name;unfold nsFind findBy at e;rw[←Array.find?_toList]at e;unfold PySem.W.lookIn;rw[hd];dsimp only;split
 ·rename_i y q;rw[q]at e;exact congrArg some e
 ·rename_i q;rw[q]at e;have a:es.toList.any (·.refKey)=false:=by
   rw[List.any_eq_false];intro y hy;obtain⟨z,t,G⟩:=hk y (Array.mem_toList_iff.mp hy);simp[DictEntry.refKey,G]
  have O:¬es.toList.any (·.refKey)=true:=by rw[a];exact uY
  rw[if_neg O];exact congrArg some e
def v6.look (I:v6 h x dx C mA):∃od,PySem.W.InstAt h x (PySem.W.instObj C dx) C (some od)/\∀name,PySem.W.lookIn name od=some (mA name) :=
 let ⟨od,G,hl⟩:=qq I.ns
 ⟨od,⟨I.obj,rfl,rfl,G⟩,hl⟩
section
variable {prog:Program}{w:World}{A:Around}{E:QV}{s:Shared}{K:Frag}{x dx C f:Addr}{mA:SV}{name:Str}{v:Value}
end
def kg.none_of (r:kg none o):o=none:=by
 cases o with
 |none=>rfl
 |some u=>exact(show False from r).elim
section
variable {P:Program}{w:World}{H H':Hp}{h h':Heap}{a C dx:Addr}{fs C4:List (Str×V)}
def oS (hok:gL P w H h)(e:H a=some (.ins C dx fs)):∃mA,v6 h a dx C mA/\(∀f,kg (fs.lookup f) (mA f))/\PySem.Within mA (fs.map (·.1))/\fs.length<=1000/\H dx=some (.own a):=by
 obtain⟨d,z,ne,ob,mA,n,r,q⟩:=(show bN P w H h a (.ins C dx fs)from hok a _ e);exact⟨mA,⟨ob,n,ne⟩,r,q,z,d⟩
end
structure Cls (K:Frag)(C:Addr):Prop where
 pg:PySem.W.plainGet K C Str.empty=true
 hd:PySem.W.hasDictIn K C=true
 po:PySem.W.plainOver K C=true
 sa:PySem.W.findIn K (.ref C) "__setattr__" = some (some (.builtin "object.__setattr__"))
def Cls.get {K:Frag}{C:Addr}(c:Cls K C)(f:Str):PySem.W.plainGet K C f=true:=c.pg
structure Meth (K:Frag)(C:Addr)(m:Str)(f:Addr):Prop where
 at_:PySem.W.findIn K (.ref C) m=some (some (.ref f))
 fn:PySem.W.isFn K (.ref f)=true
 kp:PySem.W.keepIn K (.ref f)=true
section
variable {X:Cx}{ac:AO}{σ:St}{H:Hp}{s:Shared}{a C dx:Addr}{fs:List (Str×V)}{f:Str}{v:V}{A:Around}{E:QV}
end
section
variable {X:Cx}{o e value:Expr}{f:Str}{pos pos' EC:Pos}{ta tv:TE}
end
section
variable {X:Cx}{ac:AO}{σ:St}{H:Hp}{s:Shared}{A:Around}{E:QV}{Q:QV}{c:Value}{b:Bool}
inductive TyOf (K:Frag)(H:Hp):V->Value->Prop where
 |non:TyOf K H .non (.type "NoneType")
 |bl (x:Bool):TyOf K H (.bl x) (.type "bool")
 |int (i:Int):TyOf K H (.int i) (.type "int")
 |str (x:Str):TyOf K H (.str x) (.type "str")
 |flt (x:UInt64):TyOf K H (.flt x) (.type "float")
 |lst {a:Addr}{xs:List V}(e:H a=some (.lst xs)):TyOf K H (.ref a) (.type "list")
 |frz {a:Addr}{o:Obj}{xs:List V}(e:H a=some (.frz o (.lst xs))):TyOf K H (.ref a) (.type "list")
 |tup {a:Addr}{xs:List V}(e:H a=some (.tup xs)):TyOf K H (.ref a) (.type "tuple")
 |dK {a:Addr}{aI:List (dh×V)}{ob:Obj}(e:H a=some (.dK aI ob)):TyOf K H (.ref a) (.type "dict")
 |dT {a:Addr}{aI:List (List dh×V)}(e:H a=some (.dT aI)):TyOf K H (.ref a) (.type "dict")
 |ins {a C dx:Addr}{fs:List (Str×V)}(e:H a=some (.ins C dx fs)) (cl:Cls K C) (ha:PySem.W.findIn K (.ref C) "__class__" = some (some (.builtin "object.__class__")))
   (hn:PySem.W.specialIn K (.builtin "object.__class__") "__get__" = some (some (.builtin "getset_descriptor.__get__"))) (D6:PySem.W.takesIn K (.builtin "object.__class__")=some true)
   (hm:PySem.W.mroIn K C (.type "object")=some true):TyOf K H (.ref a) (.ref C)
def dR (I:Inv X ac σ H s)(G:aT x u)(ty:TyOf X.K H x t)(e:PySem.W.kitOne X.K t c=some b)(h:∀T,Q (.bool b) { s with toks:=T }):
  wpAny (model X.prog X.w) A (call (.builtin "isinstance") [u,c]) Q E s:=by
 cases ty with
 |non=>cases (show u=Value.none from G);exact kia_one PySem.W.kitx_none I.kIn True.intro e (λz=>nomatch z) h
 |bl y=>cases (show u=Value.bool y from G);exact kia_one PySem.W.kitx_bool I.kIn True.intro e (λz=>nomatch z) h
 |int i=>obtain⟨t,q⟩:=(show ∃t,u=Value.int i t from G);cases q;exact kia_one PySem.W.kitx_int I.kIn True.intro e (λz=>nomatch z) h
 |str y=>obtain⟨t,q⟩:=(show ∃t,u=Value.str y t from G);cases q;exact kia_one PySem.W.kitx_str I.kIn True.intro e (λz=>nomatch z) h
 |flt y=>obtain⟨t,q⟩:=(show ∃t,u=Value.float y t from G);cases q;exact kia_one PySem.W.kitx_float I.kIn True.intro e (λz=>nomatch z) h
 |@lst a xs M=>
  cases (show u=Value.ref a from G)
  obtain⟨_,_,n,_,h1⟩:=(show bN X.prog X.w H s.heap a (.lst xs)from I.hok a _ M);exact kia_one PySem.W.kitx_list I.kIn ⟨_,h1,rfl⟩ e (λz=>nomatch z) h
 |@frz a ob xs M=>
  cases (show u=Value.ref a from G)
  obtain⟨_,_,_,n,_,h1⟩:=(show bN X.prog X.w H s.heap a (.frz ob (.lst xs))from I.hok a _ M);exact kia_one PySem.W.kitx_list I.kIn ⟨_,h1,rfl⟩ e (λz=>nomatch z) h
 |@tup a xs M=>
  cases (show u=Value.ref a from G)
  obtain⟨_,_,_,p⟩:=(show bN X.prog X.w H s.heap a (.tup xs)from I.hok a _ M);obtain⟨o,h1,h2,_⟩:=p;exact kia_one PySem.W.kitx_tuple I.kIn ⟨o,h1,h2⟩ e (λz=>nomatch z) h
 |@dK a aI ob M=>
  cases (show u=Value.ref a from G)
  obtain⟨_,_,_,vs,_,p⟩:=(show bN X.prog X.w H s.heap a (.dK aI ob)from I.hok a _ M);obtain⟨o,es,U,h1,h2,_⟩:=p;exact kia_one PySem.W.kitx_dict I.kIn ⟨o,h1,h2.1⟩ e (λz=>nomatch z) h
 |@dT a aI M=>
  cases (show u=Value.ref a from G)
  obtain⟨_,_,xs,_,o,es,U,h1,h2,_⟩:=(show bN X.prog X.w H s.heap a (.dT aI)from I.hok a _ M);exact kia_one PySem.W.kitx_dict I.kIn ⟨o,h1,h2.1⟩ e (λz=>nomatch z) h
 |@ins a C dx fs M cl ha hn D6 hm=>
  cases (show u=Value.ref a from G)
  obtain⟨mA,O,_⟩:=oS I.hok M;obtain⟨od,J,_⟩:=O.look;exact kia_one (PySem.W.kitx_own (cl.get _) cl.hd ha hn D6 hm) I.kIn J e (λz=>nomatch z) h
end
structure dH (k:Nat)(A:Around):Prop where
 hd:A.handled=none
 dp:A.depth+3*k+5<recursionLimit
 un:A.units+16*k+200<cLine
def dH.mono (r:dH k A)(h:j<=k):dH j A:=⟨r.hd,by have:=r.dp;omega,by have:=r.un;omega⟩
def dH.deeper (r:dH (k+1) A)(env:Env):dH k (A.deeper env) :=
 ⟨r.hd,by have:=r.dp;show A.depth+1+3*k+5<_;omega,by have:=r.un;show A.units+3+16*k+200<_;omega⟩
def dH.depth (r:dH k A):A.depth<recursionLimit:=by have:=r.dp;omega
def zM:TA:=λ_ H Q=>Q [] H
def vW (ta:TE)(G:TA):TA:=λσ H Q=>ta σ H λx M=>G σ M λxs H2=>Q (x::xs) H2
section
variable {X:Cx}{e:Expr}{es:QD}{te:TE}{t:TA}{pos:Pos}
def jy:PA X [] zM:=λ_ _ _ _ H Q I h=>Calls.spliced_nil ⟨[],H,I,.nil,h⟩
def gi (ha:PE X e te)(hr:PA X es t)(hs:starEach (e::es) X.env=(false,eval e X.env)::starEach es X.env:=by rfl):PA X (e::es) (vW te t):=by
 intro pos ac s σ H Q I h;rw[hs];show wpAny _ _ (spliced ((false,eval e X.env)::backTo pos (starEach es X.env))) _ _ s;refine Calls.spliced_cons (bV (ha ac s σ H _ I h) λu s1 ⟨x,G,M,O,T⟩=>?_);exact bV (hr pos ac s1 σ G _ M T) λus s2 ⟨xs,H2,U,r2,q2⟩=>⟨x::xs,H2,U,.cons O r2,q2⟩
def BQ (t:TA):TE:=λσ H Q=>t σ H λxs G=>xs.length<=sizeLine/\∀p,G p=none->Q (.ref p) (upd G p (.tup xs))
def BR (t:TA):TE:=λσ H Q=>t σ H λxs G=>xs.length<=sizeLine/\∀p,G p=none->Q (.ref p) (upd G p (.lst xs))
def xl {x1}(h:PA X es t):PE X (.Tuple es x1 pos) (BQ t):=by
 intro ac s σ H Q I hq;refine wpAny_Tuple_spliced (bV (h pos ac s σ H _ I hq) λus s1 ⟨xs,G,M,r,z,q⟩=>⟨by rw[←r.length];exact z,?_⟩);have O:G s1.heap.objs.size=none:=M.hok.fresh (vT _);refine⟨.ref s1.heap.objs.size,upd G s1.heap.objs.size (.tup xs),M.laid (t':=s1.toks) (λb u e=>vZ _ e) (vT _) ?_,rfl,q _ O⟩;exact⟨z,us,r,⟨_,vY _ rfl,rfl,_,rfl⟩⟩
def xm (h:PA X es t):PE X (.List es pos) (BR t):=by
 intro ac s σ H Q I hq;refine wpAny_List_spliced (bV (h pos ac s σ H _ I hq) λus s1 ⟨xs,G,M,r,z,q⟩=>⟨by rw[←r.length];exact z,?_⟩);have O:G s1.heap.objs.size=none:=M.hok.fresh (vT _);refine⟨.ref s1.heap.objs.size,upd G s1.heap.objs.size (.lst xs),M.laid (t':=s1.toks) (λb u e=>vZ _ e) (vT _) ?_,rfl,q _ O⟩;exact⟨z,us,0,r,vY _ rfl⟩
end
abbrev Sp:=List V->Hp->VK->XK->Prop
abbrev ub:=List Env->Hp->Shared->XK->QV
structure Env0 (P:Program)(w:World)(K:Frag)(mg:Str->Option Value)(base:Heap)(A:Around)(outer:List Env)(s:Shared)(H:Hp):Prop where
 frames:A.frames=some outer
 mod:Mod K mg base
 bs:∀b o,base.get? b=some o->s.heap.get? b=some o/\H b=none
 bsz:base.objs.size<=s.heap.objs.size
 funs:s.heap.FunFrames base outer
 frf:∀b∈qR outer,H b=none
 hok:gL P w H s.heap
 bare:AllBare s.gens
def CE (outer:List Env)(P:Program)(w:World)(H:Hp)(s:Shared)(Q:VK)(u:Value)(G:Shared):Prop :=
 ∃v H',G.os=s.os/\AllBare G.gens/\Un (qR outer) [] H H' s.heap G.heap/\gL P w H' G.heap/\aT v u/\Q v H'
def CR (CX:ub)(outer:List Env)(P:Program)(w:World)(H:Hp)(s:Shared)(Q:VK)(E:XK)(r:Result)(G:Shared):Prop :=
 match r with
 |.ok (.ret u)=>CE outer P w H s Q u G
 |.ok _=>False
 |.error e=>CX outer H s E e G
structure iN (P:Program)(w:World)(K:Frag)(mg:Str->Option Value)(base:Heap)(CX:ub)(k:Nat)(f:Addr)(fd:FuncData)(ps:List Str)(sp:Sp):Prop where
 len:∀vs H Q E,sp vs H Q E->vs.length=ps.length
 run:∀(A:Around)(outer:List Env)(s:Shared)(H:Hp)(args:Args)(us:List Value)(vs:List V)(Q:VK)(E:XK),dH k A->Env0 P w K mg base A outer s H->BindsTo s fd args (ps.zip us)->aX vs us->sp vs H Q E ->
  codeAny (model P w) A (.call (.ref f) args) (CR CX outer P w H s Q E) s
def iN.mono {P:Program}{w:World}{K:Frag}{mg:SV}{base:Heap}{CX:ub}{j k:Nat}{f:Addr}{fd:FuncData}{ps:LS}{sp:Sp}(F:iN P w K mg base CX j f fd ps sp)(h:j<=k):
  iN P w K mg base CX k f fd ps sp:=⟨F.len,λA outer s H args us vs Q E hr=>F.run A outer s H args us vs Q E (hr.mono h)⟩
section
variable {X:Cx}{ac:AO}{σ:St}{H:Hp}{s s':Shared}
def Inv.env0 (I:Inv X ac σ H s):Env0 X.prog X.w X.K X.mg X.base X.A X.stack s H :=
 ⟨I.ok.frames,I.ok.mod,I.bs,vR I.ok.bsz I.sz,I.stack,I.stkFree,I.hok,I.bare⟩
def Inv.after (I:Inv X ac σ H s)(h:CE X.stack X.prog X.w H s Q u s'):EP X ac σ Q u s':=by
 obtain⟨v,H',os,bare,un,hok,r,q⟩:=h;obtain⟨hh,g,d,t,G⟩:=s';obtain rfl:G=s.os:=os;exact⟨v,H',I.call (h':=hh) (g':=g) (d':=d) (t':=t) (ch:=[]) un hok bare (λb z=>absurd z (by simp)),r,q⟩
end
def zN (sp:Sp)(G:List V)(E:XK)(t:TA):TE:=λσ H Q=>t σ H λvs M=>sp (vs++G) M Q E
def kx (K:Frag)(fd:FuncData)(ps:LS)(ds:LU):Prop :=
 ∀(s:Shared)(us:LU),K.In s.heap->(us++ds).length=ps.length->BindsTo s fd ⟨us,[]⟩ (ps.zip (us++ds))
def kx.all {K:Frag}{fd:FuncData}{ps:LS}(h:∀us:LU,us.length=ps.length->bindArgs fd ⟨us,[]⟩=pure (ps.zip us)):kx K fd ps []:=λs us _ hl=>by
 rw[append_nil]at hl ⊢;exact .of_eq (h us hl)
def nI (CX:ub)(X:Cx)(E:XK):Prop:=∀(ac:AO)(σ:St)(H:Hp)(s:Shared)(e:Value)(G:Shared),Inv X ac σ H s->CX X.stack H s E e G->X.xe e G
section
variable {X:Cx}{CX:ub}{k:Nat}{f C:Addr}{fd:FuncData}{ps:LS}{sp:Sp}{zg:List V}{ds:LU}{E:XK}{x m:Str}{p pos dQ:Pos}{e o:Expr}{es:QD}{ta:TE}{t:TA}
def xn {ac:AO}{σ:St}{H:Hp}{s:Shared}{Q:VK}{us:LU}{vs:List V}(F:iN X.prog X.w X.K X.mg X.base CX k f fd ps sp)(hr:dH k X.A)(hb:kx X.K fd ps ds)(hd:aX zg ds)(hx:nI CX X E)
  (I:Inv X ac σ H s) (r:aX vs us) (h:sp (vs++zg) H Q E):wq X (call (.ref f) us) (EP X ac σ Q) X.xe s:=by
 have G:aX (vs++zg) (us++ds):=r.append hd;have hl:(us++ds).length=ps.length:=by rw[←G.length];exact F.len _ _ _ _ h
 refine wpAny_call (codeAny_mono (F.run X.A X.stack s H ⟨us,[]⟩ (us++ds) (vs++zg) Q E hr I.env0 (hb s us I.kIn hl) G h) λr M hq=>?_);cases r with
 |error e=>exact hx ac σ H s e M I hq
 |ok fl=>
  cases fl with
  |ret u=>exact I.after hq
  |next=>exact False.elim hq
  |brk=>exact False.elim hq
  |cont=>exact False.elim hq
def oV (F:iN X.prog X.w X.K X.mg X.base CX k f fd ps sp)(hr:dH k X.A)(T:Gl X x)(hm:X.mg x=some (.ref f))(hk:PySem.W.keepIn X.K (.ref f)=true)(hb:kx X.K fd ps ds)(hd:aX zg ds)(hx:nI CX X E)
  (ha:PA X (e::es) t) (G:(x == ("__debug__" : Str))=false:=by decide) (he:starEach (e::es) X.env=(false,eval e X.env)::starEach es X.env:=by rfl) (M:(backTo pos (starEach es X.env)).any (·.1)=false:=by rfl):
  PE X (.Call (.Name x p) (e::es) [] pos) (zN sp zg E t):=by
 intro ac s σ H Q I h;refine wpAny_Call_Name_kw (oP I T hm ?_ G);refine PySem.W.callWith_K (h₀:=X.base) I.ok.mod.kin hk (bV (ha pos ac s σ H _ I h) λus s1 ⟨vs,U,O,r,q⟩=>⟨O.kIn,?_⟩) he M;exact xn F hr hb hd hx O r q
end
structure FnScope (N P:List Str)(sc:Scope):Prop where
 kind:sc.kind=.function
 co:sc.isCoroutine=false
 gen:sc.isGenerator=false
 nd:N.Nodup
 pre:N.take P.length=P
 par:∀x∈P,sc.names.lookup x=some .local∨sc.names.lookup x=some .cell
 nofree:∀y∈sc.names,y.2≠.free
theorem ky {kindOf:Str->Option NameKind}{x:Str}:∀ {binds:List (Str×Value)}{m:SV},(∀v,(x,v)∉binds)->bindL kindOf binds m x=m x
 |[],_,_=>rfl
 | (n,v)::r,m,h=>by
  unfold bindL;rw[ky λw hw=>h w (mZ _ hw)];split
  ·have:x≠n:=by rintro rfl;exact h v mX
   simp[this]
  ·rfl
theorem kz {kindOf:Str->Option NameKind}{x:Str}:∀ {binds:List (Str×Value)}{m:SV},(∀v,(x,v)∉binds)->bindC kindOf binds m x=m x
 |[],_,_=>rfl
 | (n,v)::r,m,h=>by
  unfold bindC;rw[kz λw hw=>h w (mZ _ hw)];split
  ·rfl
  ·have:x≠n:=by rintro rfl;exact h v mX
   simp[this]
theorem k8 {kindOf:Str->Option NameKind}{x:Str}{v:Value}:∀ {P:LS}{vs:LU}{i:Nat}{m:SV},P.Nodup->P[i]? = some x->vs[i]? = some v->kindOf x=some .local ->
  bindL kindOf (P.zip vs) m x=some v
 |[],_,_,_,_,h,_,_=>by simp at h
 |_::_,[],_,_,_,_,h,_=>by simp at h
 |p::P,w::vs,0,m,nd,h1,h2,hk=>by
  simp at h1 h2;subst h1;subst h2;show bindL kindOf ((p,w)::P.zip vs) m p=_;unfold bindL;rw[ky λv G=>(nodup_cons.mp nd).1 (of_mem_zip G).1,if_pos hk];simp
 |p::P,w::vs,i+1,m,nd,h1,h2,hk=>by
  show bindL kindOf ((p,w)::P.zip vs) m x=_;unfold bindL;exact k8 (i:=i) (nodup_cons.mp nd).2 (by simpa using h1) (by simpa using h2) hk
theorem k9 {kindOf:Str->Option NameKind}{x:Str}{v:Value}:∀ {P:LS}{vs:LU}{i:Nat}{m:SV},P.Nodup->P[i]? = some x->vs[i]? = some v->kindOf x≠some .local ->
  bindC kindOf (P.zip vs) m x=some v
 |[],_,_,_,_,h,_,_=>by simp at h
 |_::_,[],_,_,_,_,h,_=>by simp at h
 |p::P,w::vs,0,m,nd,h1,h2,hk=>by
  simp at h1 h2;subst h1;subst h2;show bindC kindOf ((p,w)::P.zip vs) m p=_;unfold bindC;rw[kz λv G=>(nodup_cons.mp nd).1 (of_mem_zip G).1,if_neg hk];simp
 |p::P,w::vs,i+1,m,nd,h1,h2,hk=>by
  show bindC kindOf ((p,w)::P.zip vs) m x=_;unfold bindC;exact k9 (i:=i) (nodup_cons.mp nd).2 (by simpa using h1) (by simpa using h2) hk
noncomputable def fM (N:LS)(vs:List V):St:=vs.map some++List.replicate (N.length - vs.length) none
noncomputable def jh (CX:ub)(P:Program)(w:World)(K:Frag)(mg:SV)(base:Heap)(N:LS)(qual:Str)(scope:Scope)(f:Addr)(M:Value)(A:Around)(outer:List Env)(s:Shared)(H:Hp)(E:XK):Cx where
 prog:=P
 w:=w
 K:=K
 mg:=mg
 base:=base
 A:=A.deeper (envOfC qual scope s.heap.objs.size f M)
 N:=N
 s₀:=s
 H₀:=H
 env:=envOfC qual scope s.heap.objs.size f M
 outer:=outer
 stack:=envOfC qual scope s.heap.objs.size f M::outer
 ex:=[]
 calm:=true
 fn:=λ_=>true
 pn:=[]
 xe:=λe O=>wpAny (model P w) (A.deeper (envOfC qual scope s.heap.objs.size f M)) (leaving (envOfC qual scope s.heap.objs.size f M) e) (λ_ G=>CX outer H s E e G) (λT G=>CX outer H s E T G) O
def lY {sc:Scope}{n:Nat}{x:Str}(h:sc.names.lookup x=some .cell):∃c,(cellsFrom n sc.names []).lookup x=some c:=by
 have q:=PySem.W.cellsFrom_some sc.names n [] (.inl h);exact isSome_iff_exists.mp q
def qr {CX:ub}{P:Program}{w:World}{K:Frag}{mg:SV}{base:Heap}{N ps:LS}{qual:Str}{scope:Scope}{f:Addr}{T:Value}{A:Around}{outer:List Env}{s s1:Shared}{H:Hp}{E:XK}{us:LU}{vs:List V}
  (S:FnScope N ps scope) (hd:A.handled=none) (G:Env0 P w K mg base A outer s H) (hl:vs.length=ps.length) (r:aX vs us)
  (x:InCallC s s.heap.objs.size (bindL (envOfC qual scope s.heap.objs.size f T).kindOf (ps.zip us) λ_=>none) (cellsFrom (s.heap.objs.size+1) scope.names []) (bindC (envOfC qual scope s.heap.objs.size f T).kindOf (ps.zip us) λ_=>none) s1):
  Inv (jh CX P w K mg base N qual scope f T A outer s H E) [] (fM N vs) H s1:=by
 have U:ps.length<=N.length:=by have:=congrArg List.length S.pre;rw[length_take]at this;omega
 obtain⟨h1,tk,rfl,hk⟩:=x.done;have M:∀b:Addr,b∉(jh CX P w K mg base N qual scope f T A outer s H E).ex:=λb z=>absurd (show b∈([]:List Addr)from z) (by simp);refine⟨⟨G.mod,S.kind,rfl,rfl,vT _,λy z c h1 h2=>?_,λy hy=>?_,λy c _ h=>?_,λ_=>hd,Around.frames_deeper G.frames,.inr ⟨rfl,rfl⟩,λb z=>absurd z (M b),G.bs,G.bsz,λb _ _=>M b,λb z=>absurd z (M b),G.funs,G.frf⟩,
  rfl,G.bare,Un.kept hk,⟨_,x.toInCall.ns,λi y v h1 h2 h3=>?_⟩,λy c h=>⟨_,x.cell y c h⟩,G.hok.fresh (vT _),λy c h=>?_,λp hp=>absurd (show p∈([]:AO)from hp) (by simp),G.hok.kept hk,?_⟩
 ·exact name_of_addr x.apart (PySem.mem_of_lookup h1) (PySem.mem_of_lookup h2)
 ·have hy:scope.names.lookup y=some .cell∨scope.names.lookup y=some .free:=hy;rcases hy with hy|hy
  ·exact lY hy
  ·exact absurd rfl (S.nofree _ (PySem.mem_of_lookup hy))
 ·exact le_of_lt (x.above y c (PySem.mem_of_lookup h))
 ·have hi:i<vs.length:=by
   unfold fM at h2;by_cases hi:i<vs.length
   ·exact hi
   ·rw[List.getElem?_append_right (by simpa using hi)]at h2;rw[getElem?_replicate]at h2;split at h2<;>cases h2
  have ha:vs[i]? = some v:=by
   unfold fM at h2;rw[getElem?_append_left (by simpa using hi),vB]at h2;cases e:vs[i]? with
   |none=>rw[e]at h2;cases h2
   |some a=>rw[e]at h2;cases h2;rfl
  obtain⟨u,hu,rv⟩:=r.get ha;have hp:ps[i]? = some y:=by
   rw[←S.pre,List.getElem?_take_of_lt (by omega)];exact h1
  have O:ps.Nodup:=by rw[←S.pre];exact S.nd.sublist (List.take_sublist _ _)
  refine⟨u,rv,?_⟩;rcases S.par y (mem_of_getElem? hp)with k|k
  ·exact .inl ⟨k,k8 O hp hu k⟩
  ·obtain⟨c,e⟩:=lY (n:=s.heap.objs.size+1) k;refine .inr ⟨.inl k,c,e,?_⟩;have q:=x.cell y c e;rw[k9 O hp hu (by show scope.names.lookup y≠_;rw[k];decide)]at q;exact q
 ·exact G.hok.fresh (le_of_lt (x.above y c (PySem.mem_of_lookup h)))
 ·unfold fM;show _=N.length;rw[vA,vI,length_replicate];omega
def wa {CX:ub}{P:Program}{w:World}{K:Frag}{mg:SV}{base:Heap}{k:Nat}{f:Addr}{name qual:Str}{params:Arguments}{G:List Stmt}{scope:Scope}{dV kV doc pm cL ct oc:Value}{an od:Option Addr}
  {kf:Array (Option Value)}{N ps:LS}{sp:Sp}(lk:K.lookup f=some ⟨oc,od,.func (fnOf name qual params G scope dV kV doc pm an cL ct),kf⟩) (wD:PySem.W.codeIn K cL qual=true) (S:FnScope N ps scope)
  (len:∀vs H Q E,sp vs H Q E->vs.length=ps.length)
  (O:∀(A:Around)(outer:List Env)(s:Shared)(H:Hp)(vs:List V)(Q:VK)(E:XK),dH k (A.deeper (envOfC qual scope s.heap.objs.size f cL))->sp vs H Q E ->
   ∃t,lr (jh CX P w K mg base N qual scope f cL A outer s H E) G t/\t { nx:=λ_ H'=>Q .non H',rt:=Q } (fM N vs) H):
  iN P w K mg base CX (k+1) f (fnOf name qual params G scope dV kV doc pm an cL ct) ps sp:=by
 refine⟨len,λA outer s H args us vs Q E hr U hb r B8=>?_⟩;have hl:=len _ _ _ _ B8;have KX:K.In s.heap:=U.mod.kin.keeps λb o e=>(U.bs b o e).1;have ED:s.heap.NoLimit:=U.mod.nolimit.keeps λb o e=>(U.bs b o e).1;have T:∀y∈ps.zip us,scope.names.lookup y.1=some .local∨(scope.names.lookup y.1=some .cell/\((cellsFrom (s.heap.objs.size+1) scope.names []).lookup y.1).isSome=true):=λ⟨n,v⟩ hy=>by
  rcases S.par n (of_mem_zip hy).1 with q|q
  ·exact .inl q
  ·exact .inr ⟨q,PySem.W.cellsFrom_some _ _ _ (.inl q)⟩
 refine codeAny_call_function hr.depth (KX _ _ lk) rfl S.co S.gen rfl (PySem.W.codeRec_of KX wD) (hb _ _ _ _ ?_);refine wpAny_newFunctionEnv_cells S.kind T λenv he s1 x=>?_;subst he;refine⟨ED.keeps x.toInCall.keep,codeAny_func ?_⟩;obtain⟨t,ht,hq⟩:=O A outer s H vs Q E (hr.deeper _) B8;have I:Inv (jh CX P w K mg base N qual scope f cL A outer s H E) [] (fM N vs) H s1:=qr S hr.hd U hl r x;refine wpAny_mono (ht [] s1 (fM N vs) H _ I hq) (λfl s' hs=>?_) λe s' hs=>hs;have yL:∀ {M:St}{H':Hp}{v:V}{u:Value},Inv (jh CX P w K mg base N qual scope f cL A outer s H E) [] M H' s'->aT v u->Q v H'->CE outer P w H s Q u s' :=
  λ{M H' v u} J rv q=>⟨v,H',J.os,J.bare,J.base,J.hok,rv,q⟩
 cases fl with
 |ret u=>
  obtain⟨v,M,H',J,rv,q⟩:=hs;exact yL J rv q
 |next=>
  obtain⟨M,H',J,q⟩:=hs;exact yL (v:=V.non) (u:=Value.none) J rfl q
 |brk=>
  obtain⟨_,_,_,q⟩:=hs;exact False.elim q
 |cont=>
  obtain⟨_,_,_,q⟩:=hs;exact False.elim q
section
variable {X:Cx}{x:Str}{p pos:Pos}{e:Expr}{es:QD}{t:TA}{id T:String}{r:List V->Hp->VK->Prop}
def Dj (r:List V->Hp->VK->Prop)(t:TA):TE:=λσ H Q=>t σ H λvs G=>r vs G Q
def rh (hc:bT X (.builtin id) r)(O:Gl X x)(hm:X.mg x=none)(U:bootBuiltins x=some (.builtin id))(ha:PA X (e::es) t)(hn:x ≠ "__name__":=by decide)(G:(x == ("__debug__" : Str))=false:=by decide)
  (he:starEach (e::es) X.env=(false,eval e X.env)::starEach es X.env:=by rfl) (M:(backTo pos (starEach es X.env)).any (·.1)=false:=by rfl):PE X (.Call (.Name x p) (e::es) [] pos) (Dj r t):=by
 intro ac s σ H Q I h;refine wpAny_Call_Name_kw (jw I O hm U ?_ hn G);exact PyProof.Rows.callWith_builtin1 (bV (ha pos ac s σ H _ I h) λus s1 ⟨vs,H1,I1,r1,q1⟩=>hc ac s1 σ H1 vs us Q I1 r1 q1) he M
def qs (hc:bT X (.type T) r)(O:Gl X x)(hm:X.mg x=none)(U:bootBuiltins x=some (.type T))(ha:PA X (e::es) t)(hn:x ≠ "__name__":=by decide)(G:(x == ("__debug__" : Str))=false:=by decide)
  (he:starEach (e::es) X.env=(false,eval e X.env)::starEach es X.env:=by rfl) (M:(backTo pos (starEach es X.env)).any (·.1)=false:=by rfl):PE X (.Call (.Name x p) (e::es) [] pos) (Dj r t):=by
 intro ac s σ H Q I h;refine wpAny_Call_Name_kw (jw I O hm U ?_ hn G);exact PyProof.Rows.callWith_type1 (bV (ha pos ac s σ H _ I h) λus s1 ⟨vs,H1,I1,r1,q1⟩=>hc ac s1 σ H1 vs us Q I1 r1 q1) he M
end
end L2
namespace HT
open PySem PyProof.Rows
section
open PySem.SeqAt
open PySem.AutoSeq1 (wpAny_loadPart')
open PySem.MeetsSeq PySem.MeetsSeq2 PySem.MeetsSeq3
end
section
variable {prog:Program}{w:World}{A:Around}{E:QV}{s:Shared}
def uc (ht:IsTup s.heap t vs.toArray)(hb:IsTup s.heap b ws.toArray)(hv:vs≠[])
  (h1:ws=[]->Q (.ref t) s) (h2:ws≠[]->Q (.ref s.heap.objs.size) { s with heap:=s.heap.push { cls:=.type "tuple",data:=.seq (vs++ws).toArray } })
  (tP:vs.length+ws.length<=sizeLine):wpAny (model prog w) A (binaryOp .Add (.ref t) (.ref b)) Q E s:=by
 obtain⟨⟨cls,dd,data,sl⟩,ho,hc,n,hd⟩:=id ht;obtain⟨⟨EE,M,data2,O⟩,G,T,n2,U⟩:=id hb;simp only at hc hd T U;subst hc hd T U;have e:vs.toArray++ws.toArray=(vs++ws).toArray:=by simp
 by_cases hw:ws=[]
 ·exact concat_meets ⟨_,ho,rfl⟩ ⟨_,G,rfl⟩ noFill_tuple_add seq_tuple_add PySem.F.slot_tuple_add PySem.F.entry_tuple_add (PySem.F.args_tuple_add_2 _ _)
   (tuple_addW1 t b vs.toArray ws.toArray n n2 dd M sl O (by simpa using hv) (by simp[hw])) ⟨ho,G,h1 hw⟩
 ·refine concat_meets ⟨_,ho,rfl⟩ ⟨_,G,rfl⟩ noFill_tuple_add seq_tuple_add PySem.F.slot_tuple_add PySem.F.entry_tuple_add (PySem.F.args_tuple_add_2 _ _)
   (tuple_addW2 t b vs.toArray ws.toArray n n2 dd M sl O (by simpa using hv) (by simpa using hw) (by rw[vH,vH];exact tP)) ⟨ho,G,?_⟩
  rw[e];exact h2 hw
noncomputable def cu (n d:Nat):OI->Nat
 |none=>d
 |some v=>if v<0 then (v+(n:Int)).toNat else min v.toNat n
def xo (n d:Nat)(hd:d<=n)(o:OI):cu n d o<=n:=by
 cases o with
 |none=>exact hd
 |some v=>
  show(if v<0 then (v+(n:Int)).toNat else min v.toNat n)<=n;by_cases G:v<0
  ·rw[if_pos G];omega
  ·rw[if_neg G];exact Nat.min_le_right _ _
def oW (v:Int)(n d:Nat):(if v<0 then max (v+(n:Int)) 0 else min v (n:Int))=((cu n d (some v):Nat):Int):=by
 show(if v<0 then max (v+(n:Int)) 0 else min v (n:Int))=(((if v<0 then (v+(n:Int)).toNat else min v.toNat n):Nat):Int);by_cases G:v<0
 ·simp only[if_pos G];omega
 ·simp only[if_neg G];omega
def nJ (lo hi:OI)(n:Nat):Builtin.Slice.sliceAdjust lo hi 1 (n:Int)=(((cu n 0 lo:Nat):Int),((cu n n hi:Nat):Int)):=by
 have h1:¬((1:Int)<0):=by omega
 unfold Builtin.Slice.sliceAdjust;simp only[h1,if_false];refine Prod.ext ?_ ?_
 ·cases lo with
  |none=>rfl
  |some v=>exact oW v n 0
 ·cases hi with
  |none=>rfl
  |some v=>exact oW v n n
def nK (i j:Nat):Builtin.Slice.slicePlaces (i:Int) (j:Int) 1=j - i:=by
 unfold Builtin.Slice.slicePlaces;have h1:(1:Int) > 0:=by omega
 simp only[h1,if_true,Int.ediv_one];split<;>omega
def jz (p:IsPart v o)(h:Q o s):wpAny (model prog w) A (Builtin.Slice.slicePartIndex v) Q E s:=by
 cases p with
 |none=>exact slicePart_none h
 |int i t=>exact slicePart_int h
def eU {sl:Addr}{vl O:Value}{lo hi:OI}{n:Nat}{Q:Int×Int×Nat->Shared->Prop}(hs:s.heap.IsSliceOf sl vl O .none)(pl:IsPart vl lo)(T:IsPart O hi)
  (h:Q (((cu n 0 lo:Nat):Int),1,cu n n hi - cu n 0 lo) s):wpAny (model prog w) A (Builtin.Slice.sliceApplied (.ref sl) (pure (n:Int))) Q E s:=by
 obtain⟨os,G,U,M⟩:=id hs;unfold Builtin.Slice.sliceApplied Builtin.Slice.sliceFields;refine wX (wX (wpAny_field G M (x:=vl) rfl (wX (wpAny_field G M (x:=O) rfl (wX (wpAny_field G M (x:=.none) rfl (wY ?_)))))));refine wX (slicePart_none ?_);show wpAny _ _ (if((1:Int) == 0)=true then _ else _) _ _ s;rw[if_neg (by decide)];refine wX (jz pl (wX (jz T (wX (wY ?_)))));show wpAny _ _ (match Builtin.Slice.sliceAdjust lo hi 1 (n:Int) with|(lo,hi)=>pure (lo,(1:Int),Builtin.Slice.slicePlaces lo hi 1)) _ _ s;rw[nJ lo hi n];show wpAny _ _ (pure (((cu n 0 lo:Nat):Int),(1:Int),Builtin.Slice.slicePlaces ((cu n 0 lo:Nat):Int) ((cu n n hi:Nat):Int) 1)) _ _ s;rw[nK];exact wY h
def ri (xs:AV)(i k:Nat):((List.range k).filterMap λ(m:Nat)=>xs[((i:Int)+(m:Int)*1).toNat]?).toArray=((xs.toList.drop i).take k).toArray:=by
 have e:(λ(m:Nat)=>xs[((i:Int)+(m:Int)*1).toNat]?)=λm=>xs[i+m]?:=by
  funext m;have:((i:Int)+(m:Int)*1).toNat=i+m:=by omega
  rw[this]
 rw[e];have:=pick_run xs i k;rw[List.filterMap_map]at this;have G:((λx=>xs[x]?) ∘ λx=>i+x)=λm=>xs[i+m]?:=rfl;rw[G]at this;rw[this]
def gM {t sl:Addr}{items:AV}{vl vu:Value}{lo hi:OI}{Q:QV}(M:IsTup s.heap t items)(hs:s.heap.IsSliceOf sl vl vu .none)(pl:IsPart vl lo)(pu:IsPart vu hi)
  (hw:¬(cu items.size 0 lo=0/\cu items.size items.size hi=items.size))
  (h:Q (.ref s.heap.objs.size) { s with heap:=s.heap.push { cls:=.type "tuple",data:=.seq ((items.toList.drop (cu items.size 0 lo)).take (cu items.size items.size hi - cu items.size 0 lo)).toArray } })
  (tP:items.size<=sizeLine):wpAny (model prog w) A (getItem (.ref t) (.ref sl)) Q E s:=by
 have G:sizeOk (.seq ((items.toList.drop (cu items.size 0 lo)).take (cu items.size items.size hi - cu items.size 0 lo)).toArray):=by
  show((items.toList.drop (cu items.size 0 lo)).take (cu items.size items.size hi - cu items.size 0 lo)).toArray.size<=sizeLine
  rw[vH,length_take,length_drop,Array.length_toList]
  omega
 have hj:cu items.size items.size hi<=items.size:=xo _ _ (vT _) hi
 obtain⟨os,O,T,CC⟩:=id hs
 have U:s.TypeIs (.ref sl) "slice":=⟨os,O,T⟩
 unfold getItem
 try with_reducible refine wpAny_holding ?_
 first|refine wX (wY ?_)|skip
 refine wX (wpAny_sequenceKey M.typeIs (by decide) ?_)
 refine wX (wpAny_callSpecial?_slot (name:=Str.ofString "__getitem__") M.typeIs PyProof.Rows.slot_tuple_getitem
  (wpAny_call_entry PyProof.Rows.slot_tuple_getitem M.typeIs entry_tuple_getitem ?_ (args_tuple_getitem _ _)))
 show wpAny _ _ (Builtin.Tuple.tupleItemsOf (.ref t)>>=_) _ _ s
 refine wX (tupleItemsOf_ M ?_)
 refine wX (wpAny_typeOf U ?_)
 rw[if_pos (by decide)]
 refine wX (eU hs pl pu ?_)
 have EF:¬((((cu items.size 0 lo:Nat):Int) == 0 && (1:Int) == 1 && (cu items.size items.size hi - cu items.size 0 lo) == items.size)=true):=by
  intro q
  rw[vD,vD]at q
  have q1:((cu items.size 0 lo:Nat):Int)=0:=eq_of_beq q.1.1
  have q2:cu items.size items.size hi - cu items.size 0 lo=items.size:=eq_of_beq q.2
  exact hw ⟨by omega,by omega⟩
 show wpAny _ _ (if(((cu items.size 0 lo:Nat):Int) == 0 && (1:Int) == 1 && (cu items.size items.size hi - cu items.size 0 lo) == items.size)=true then _ else _) _ _ s
 rw[if_neg EF,ri]
 first
  |exact wX (m:=Builtin.Tuple.tupleExact _) (wpAny_newObj_type (wY ⟨_,rfl,wY h⟩) G)
  |exact wX (m:=Builtin.Tuple.tupleExact _) (wpAny_newObj_type (wX (wY (wY ⟨_,rfl,wY h⟩))) G)
  |exact wX (wX (m:=Builtin.Tuple.tupleExact _) (wpAny_newObj_type (wY (wY ⟨_,rfl,wY h⟩)) G))
  |exact wX (wX (m:=Builtin.Tuple.tupleExact _) (wpAny_newObj_type (wY ⟨_,rfl,wY h⟩) G))
end
end HT
namespace L2
open PySem PySem.Spec PyProof.Rows
abbrev TO:=St->Hp->(OI->Hp->Prop)->Prop
def PO (X:Cx)(e:Option Expr)(t:TO):Prop :=
 ∀(ac:AO)(s:Shared)(σ:St)(H:Hp)(Q:OI->Hp->Prop),Inv X ac σ H s->t σ H Q ->
  wq X (evalPart e X.env) (λu G=>∃o H',Inv X ac σ H' G/\IsPart u o/\Q o H') X.xe s
def ud:TO:=λ_ H Q=>Q none H
def zO (t:TE):TO:=λσ H Q=>t σ H λx G=>∃i,x=.int i/\Q (some i) G
section
variable {X:Cx}{e:Expr}{te:TE}{lo hi:Option Expr}{tl th:TO}{pos p2:Pos}
def ue:PO X none ud:=by
 intro ac s σ H Q I h;rw[evalPart_none];exact wY ⟨none,H,I,.none,h⟩
def uf (h:PE X e te):PO X (some e) (zO te):=by
 intro ac s σ H Q I hw;rw[evalPart_some];refine bV (h ac s σ H _ I hw) λu s1 ⟨x,G,M,O,T⟩=>?_;obtain⟨i,rfl,q⟩:=T;obtain⟨t,rfl⟩:=O;exact⟨some i,G,M,.int i t,q⟩
def qS (X:Cx)(r:V->OI->OI->Hp->VK->Prop):Prop :=
 ∀(ac:AO)(s:Shared)(σ:St)(H:Hp)(x:V)(v vl G:Value)(lo hi:OI)(sl:Addr)(Q:VK),Inv X ac σ H s->aT x v->s.heap.IsSliceOf sl vl G .none->IsPart vl lo->IsPart G hi->r x lo hi H Q ->
  ∃T id,typeLookup (.type T) "__getitem__" = pure (some (.builtin id))/\s.TypeIs v T/\wq X (getItem v (.ref sl)) (EP X ac σ Q) X.xe s
def qS.or (h:qS X r)(h':qS X r'):qS X (λx lo hi H Q=>r x lo hi H Q∨r' x lo hi H Q):=by
 intro ac s σ H x v vl G lo hi sl Q I M hs pl O q;rcases q with q|q
 ·exact h ac s σ H x v vl G lo hi sl Q I M hs pl O q
 ·exact h' ac s σ H x v vl G lo hi sl Q I M hs pl O q
def Eh (r:V->OI->OI->Hp->VK->Prop)(te:TE)(tl th:TO):TE:=λσ H Q=>te σ H λx G=>tl σ G λl H2=>th σ H2 λu M=>r x l u M Q
def rj (hr:qS X r)(he:PE X e te)(hl:PO X lo tl)(hu:PO X hi th):PE X (.Subscript e (.Slice lo hi none p2) pos) (Eh r te tl th):=by
 intro ac s σ H Q I h;refine Subscript_ (bV (he ac s σ H _ I h) λv s1 ⟨x,U,I1,r1,q1⟩=>?_);refine wpAny_Slice (bV (hl ac s1 σ U _ I1 q1) λvl s2 ⟨l,H2,I2,pl,q2⟩=>bV (hu ac s2 σ H2 _ I2 q2) λM G ⟨u,O,I3,pu,q3⟩=>?_);rw[evalPart_none];refine wY ?_;have I4:Inv X ac σ O { G with heap:=G.heap.push { cls:=.type "slice",data:=.fields #[vl,M,.none] } }:=I3.kept (t':=G.toks) λb ob q=>vZ _ q;obtain⟨T,id,hT,ht,hg⟩:=hr ac { G with heap:=G.heap.push { cls:=.type "slice",data:=.fields #[vl,M,.none] } } σ O x v vl M l u G.heap.objs.size Q I4 r1 (Heap.IsSliceOf.new ..) pl pu q3;show wq X (subscriptTail e (.Slice lo hi none p2) v (.ref G.heap.objs.size)) (EP X ac σ Q) X.xe { G with heap:=G.heap.push { cls:=.type "slice",data:=.fields #[vl,M,.none] } };exact tail_any (ops:=[.ref G.heap.objs.size,v]) ht hT hg (by with_unfolding_all rfl)
def kh (xs:List V)(lo hi:OI):List V:=(xs.drop (HT.cu xs.length 0 lo)).take (HT.cu xs.length xs.length hi - HT.cu xs.length 0 lo)
def iP (xs:List V)(lo hi:OI):(kh xs lo hi).length<=xs.length:=by
 unfold kh;rw[length_take,length_drop];omega
def BS (K:Frag):V->OI->OI->Hp->VK->Prop:=λx lo hi H Q=>∃a xs,x=.ref a/\eS K H a xs /\
 ¬(HT.cu xs.length 0 lo=0/\HT.cu xs.length xs.length hi=xs.length)/\∀p,H p=none->Q (.ref p) (upd H p (.tup (kh xs lo hi)))
def xp:qS X (BS X.K):=by
 intro ac s σ H x v vl U lo hi sl Q I O hs pl T h;obtain⟨a,xs,rfl,hx,hw,q⟩:=h;cases O
 obtain⟨its,r,M,hz⟩:=I.tuple hx;have G:its.toArray.size=xs.length:=by rw[vH];exact r.length.symm
 refine⟨"tuple",_,PyProof.Rows.slot_tuple_getitem.lookup,M.typeIs,?_⟩;refine HT.gM M hs pl T (by rw[G];exact hw) ?_ (by rw[G];exact hz);rw[G];refine⟨.ref s.heap.objs.size,_,I.laid (t':=s.toks) (o:=.tup (kh xs lo hi)) (λb ob q=>vZ _ q) (vT _) ?_,rfl,q _ (I.hok.fresh (vT _))⟩;exact⟨vR (iP xs lo hi) hz,_,(r.drop (HT.cu xs.length 0 lo)).take (HT.cu xs.length xs.length hi - HT.cu xs.length 0 lo),IsTup.new _ _⟩
def zP (K:Frag):R2:=λx y H Q=>∃a b xs ys,x=.ref a/\y=.ref b/\eS K H a xs/\eS K H b ys/\xs≠[]/\xs.length+ys.length<=sizeLine /\
 (ys=[]->Q (.ref a) H)/\(ys≠[]->∀p,H p=none->Q (.ref p) (upd H p (.tup (xs++ys))))
def aX.nil_iff (r:aX xs us):us=[]↔xs=[]:=by
 cases r with
 |nil=>simp
 |cons _ _=>simp
def ug:cF X (binaryOp .Add) (zP X.K):=by
 intro ac s σ H x y v u Q I T U h;obtain⟨a,b,xs,ys,rfl,rfl,ha,hb,hx,hz,q1,q2⟩:=h;cases T
 cases U
 obtain⟨its,M,p1,_⟩:=I.tuple ha;obtain⟨O,G,p2,_⟩:=I.tuple hb;refine HT.uc p1 p2 (λz=>hx (M.nil_iff.mp z)) (λz=>⟨.ref a,H,I,rfl,q1 (G.nil_iff.mp z)⟩) (λz=>?_) (by rw[←M.length,←G.length];exact hz);refine⟨.ref s.heap.objs.size,_,I.laid (t':=s.toks) (o:=.tup (xs++ys)) (λb ob q=>vZ _ q) (vT _) ?_,rfl,q2 (λw=>z (G.nil_iff.mpr w)) _ (I.hok.fresh (vT _))⟩;exact⟨by rw[vA];exact hz,_,M.append G,IsTup.new _ _⟩
end
def oZ (n:Nat)(i:Int):Option Nat:=if 0<=i then (if i<n then some i.toNat else none)else if -(n:Int)<=i then some (i+n).toNat else none
def iQ {α:Type}(xs:List α)(i:Int):Option α:=(oZ xs.length i).bind λj=>xs[j]?
def pb (h:oZ n i=some j):seqIndex? i n=some j/\j<n/\-(n:Int)<=i/\i<n:=by
 unfold oZ at h;by_cases h0:0<=i
 ·rw[if_pos h0]at h;by_cases h1:i<n
  ·rw[if_pos h1]at h;have e:i.toNat=j:=vK h;exact⟨by rw[seqIndex_of h0 h1,e],by omega,by omega,h1⟩
  ·rw[if_neg h1]at h;cases h
 ·rw[if_neg h0]at h;by_cases h1 : -(n:Int)<=i
  ·rw[if_pos h1]at h;have e:(i+n).toNat=j:=vK h;exact⟨by rw[seqIndex_neg (by omega) h1,e],by omega,h1,by omega⟩
  ·rw[if_neg h1]at h;cases h
def lv {α:Type}{xs:List α}{i:Int}{v:α}(h:iQ xs i=some v):∃j,seqIndex? i xs.length=some j/\xs[j]? = some v/\j<xs.length/\-(xs.length:Int)<=i/\i<xs.length:=by
 unfold iQ at h;cases e:oZ xs.length i with
 |none=>rw[e]at h;cases h
 |some j=>
  rw[e]at h;obtain⟨h1,h2,h3,h4⟩:=pb e;exact⟨j,h1,h,h2,h3,h4⟩
def uh {α:Type}{xs:List α}{j:Nat}{v:α}(h:xs[j]? = some v):iQ xs (j:Int)=some v:=by
 have hj:j<xs.length:=(vV h).1;have e:oZ xs.length (j:Int)=some j:=by
  unfold oZ;rw[if_pos (by omega),if_pos (by omega)];simp
 unfold iQ;rw[e];exact h
def gO (b:Expr):Prop:=∀o i,subscripted b false o i=operate [o,i] (getItem o i)
def rm (X:Cx)(r:R2):Prop :=
 ∀(M G:Expr)(ac:AO)(s:Shared)(σ:St)(H:Hp)(x y:V)(v u:Value)(Q:VK),Inv X ac σ H s->aT x v->aT y u->r x y H Q ->
  subscripted G false v u=operate [v,u] (getItem v u)->wq X (subscriptTail M G v u) (EP X ac σ Q) X.xe s
def ui (X:Cx)(id:String)(r:V->List V->Hp->VK->Prop):Prop :=
 ∀(ac:AO)(s:Shared)(σ:St)(H:Hp)(x:V)(xs:List V)(v:Value)(us:LU)(Q:VK),Inv X ac σ H s->aT x v->aX xs us->r x xs H Q ->
  wq X (call (.builtin id) (v::us)) (EP X ac σ Q) X.xe s
section
variable {X:Cx}{a b:Expr}{ta tb:TE}{pos:Pos}
def rm.or (h:rm X r)(h':rm X r'):rm X (λx y H Q=>r x y H Q∨r' x y H Q):=by
 intro G M ac s σ H x y v u Q I O T q hs;rcases q with q|q
 ·exact h G M ac s σ H x y v u Q I O T q hs
 ·exact h' G M ac s σ H x y v u Q I O T q hs
def ui.or {id:String}{r G:V->List V->Hp->VK->Prop}(h:ui X id r)(h':ui X id G):ui X id (λx xs H Q=>r x xs H Q∨G x xs H Q):=by
 intro ac s σ H x xs v us Q I M O q;rcases q with q|q
 ·exact h ac s σ H x xs v us Q I M O q
 ·exact h' ac s σ H x xs v us Q I M O q
def pd (hr:rm X r)(ha:PE X a ta)(hb:PE X b tb)(hs:gO b):PE X (.Subscript a b pos) (Bu r ta tb):=by
 intro ac s σ H Q I h;exact Subscript_ (wZ ha hb I h λv u s2 x y H2 G M O q=>hr a b ac s2 σ H2 x y v u Q G M O q (hs _ _))
def BU (K:Frag):R2:=λx y H Q=>∃p xs i v,x=.ref p/\y=.int i/\fz K H p xs/\iQ xs i=some v/\Q v H
def BV (K:Frag):R2:=λx y H Q=>∃p xs i v,x=.ref p/\y=.int i/\eS K H p xs/\iQ xs i=some v/\Q v H
def BW:R2:=λx y H Q=>∃z i c,x=.str z/\y=.int i/\z.length<=sizeLine/\iQ z.cps.toList i=some c/\Q (.str ⟨#[c]⟩) H
def pe:rm X (BU X.K):=by
 intro M O ac s σ H x y v u Q I rx ry h hs;obtain⟨p,xs,i,z,rfl,rfl,hq,he,q⟩:=h;cases rx
 obtain⟨t,rfl⟩:=ry;obtain⟨its,r,pl,hz⟩:=I.list hq;obtain⟨j,h1,h2,h3,h4,h5⟩:=lv he;obtain⟨w,U,T⟩:=r.get h2;have hl:=r.length;have hn:=im;have G:EP X ac σ Q w s:=⟨z,H,I,T,q⟩;by_cases h0:0<=i
 ·have hj:i.toNat=j:=by
   rw[seqIndex_of h0 h5]at h1;exact vK h1
  exact item_listR pl.isList h0 (by omega) (by rw[hj];simpa using U) G hs
 ·have hj:(i+(its.toArray.size:Int)).toNat=j:=by
   rw[seqIndex_neg (by omega) h4]at h1;rw[vH,←hl];exact vK h1
  exact subscriptTail_builtinR (x:=w) pl.isList.typeIs slot_list_getitem.lookup
   (wpAny_getItem_list_neg (Q:=λr s'=>r=w/\EP X ac σ Q r s') pl.isList (by omega) (by rw[vH]<;>omega) (by omega) (by rw[hj];simpa using U) ⟨rfl,G⟩) hs
def ro:rm X (BV X.K):=by
 intro G M ac s σ H x y v u Q I U ry h hs;obtain⟨p,xs,i,z,rfl,rfl,hq,he,q⟩:=h;cases U
 obtain⟨t,rfl⟩:=ry;obtain⟨its,r,pl,hz⟩:=I.tuple hq;obtain⟨j,h1,h2,h3,h4,h5⟩:=lv he;obtain⟨w,ew,O⟩:=r.get h2;have hl:=r.length;have hn:=im;have T:EP X ac σ Q w s:=⟨z,H,I,O,q⟩;exact subscriptTail_builtinR (x:=w) pl.typeIs slot_tuple_getitem.lookup
  (getItem_tuple (j:=j) (Q:=λr s'=>r=w/\EP X ac σ Q r s') pl (by omega) (by omega) (by rw[vH,←hl];exact h1) (by simpa using ew) ⟨rfl,T⟩) hs
def lw:rm X BW:=by
 intro G M ac s σ H x y v u Q I O T h hs;obtain⟨z,i,c,rfl,rfl,hz,he,q⟩:=h;obtain⟨t,rfl⟩:=O;obtain⟨t',rfl⟩:=T;obtain⟨j,h1,h2,h3,h4,h5⟩:=lv he;have hl:z.cps.toList.length=z.length:=by simp[Str.length]
 rw[hl]at h1 h4 h5;have hn:=im;exact tail_any (typeIs_str s z t) slot_str_getitem.lookup (getItem_str (c:=c) (by
  have U:decide (i < -(2 ^ 63:Int))=false:=decide_eq_false (by omega);have e2:decide (i ≥ 2 ^ 63)=false:=decide_eq_false (by omega);rw[U,e2,Bool.or_false]) (by rw[h1];simpa using h2) ⟨.str ⟨#[c]⟩,H,I.tok _,⟨_,rfl⟩,q⟩) hs
def nL (its:LU)(n j:Nat)(u:Value):Obj.mapSeq (·.setIfInBounds j u) { cls:=.type "list",data:=.seq its.toArray n }={ cls:=.type "list",data:=.seq (its.set j u).toArray n }:=by
 simp[Obj.mapSeq]
def Inv.lst (I:Inv X ac σ H s)(h:H p=some (.lst xs)):
  ∃(its:LU)(n:Nat),aX xs its/\s.heap.get? p=some { cls:=.type "list",data:=.seq its.toArray n }/\xs.length<=sizeLine:=by
 obtain⟨z,its,n,r,e⟩:=I.hok p _ h;exact⟨its,n,r,e,z⟩
def Inv.lstUpd {ac:AO}{σ:St}{H:Hp}{s:Shared}{p:Addr}{xs ys:List V}{its its':LU}{n G:Nat}{f:Obj->Obj}(I:Inv X ac σ H s)(h:H p=some (.lst xs))
  (O:s.heap.get? p=some { cls:=.type "list",data:=.seq its.toArray n }) (M:f { cls:=.type "list",data:=.seq its.toArray n }={ cls:=.type "list",data:=.seq its'.toArray G }) (r:aX ys its') (hz:ys.length<=sizeLine) (t:Nat):
  Inv X ac σ (upd H p (.lst ys)) { s with heap:=s.heap.update p f,toks:=t }:=by
 have e:(s.heap.update p f).get? p=some { cls:=.type "list",data:=.seq its'.toArray G }:=by
  rw[Heap.get?_update_self f O (by rw[M]<;>rfl),M]
 refine I.write (x:=p) (e:=p) (by rw[h];trivial) (.inl rfl) (λb u hb q=>(Heap.get?_update_other _ _ (Ne.symm hb)).trans q) ⟨_,e⟩ ?_;exact⟨hz,its',G,r,e⟩
def zQ:V->V->V->Hp->(Hp->Prop)->Prop:=λo i v H Q=>∃p xs k j,o=.ref p/\i=.int k/\H p=some (.lst xs)/\oZ xs.length k=some j/\Q (upd H p (.lst (xs.set j v)))
def lZ:zx X zQ:=by
 intro ac s σ H o i v ov iv u Q I O T U h;obtain⟨p,xs,k,j,rfl,rfl,hp,hj,q⟩:=h;cases O
 obtain⟨t,rfl⟩:=T;obtain⟨its,n,r,G,hz⟩:=I.lst hp;obtain⟨h1,h2,h3,h4⟩:=pb hj;have hl:=r.length;have hn:=im;have M:Inv X ac σ (upd H p (.lst (xs.set j v))) { s with heap:=s.heap.update p (Obj.mapSeq (·.setIfInBounds j u)) } :=
  I.lstUpd hp G (nL its n j u) (r.set U j) (by rw[length_set];exact hz) s.toks
 by_cases h0:0<=k
 ·have hk:k.toNat=j:=by
   rw[seqIndex_of h0 h4]at h1;exact vK h1
  exact PySem.W.ki_setAt G h0 (by omega) (by rw[vH,←hl];exact h4) (by rw[hk];exact⟨_,M,q⟩)
 ·have hk:(k+(its.toArray.size:Int)).toNat=j:=by
   rw[seqIndex_neg (by omega) h3]at h1;rw[vH,←hl];exact vK h1
  exact PySem.W.ki_setBack G (by omega) (by rw[vH,←hl];exact h3) (by omega) (by rw[hk];exact⟨_,M,q⟩)
def lx (lo hi:OI)(n:Nat):(sliceBounds lo hi none n).1=((HT.cu n 0 lo:Nat):Int)/\(sliceBounds lo hi none n).2.1=((HT.cu n n hi:Nat):Int)/\(sliceBounds lo hi none n).2.2=1:=by
 refine⟨?_,?_,rfl⟩
 ·cases lo with
  |none=>simp[sliceBounds,HT.cu]
  |some i=>
   simp only[sliceBounds,HT.cu,getD_none,show(1:Int) > 0 by decide,if_true];by_cases h:i<0
   ·simp only[h,if_true]<;>omega
   ·simp only[h,if_false]<;>omega
 ·cases hi with
  |none=>simp[sliceBounds,HT.cu]
  |some i=>
   simp only[sliceBounds,HT.cu,getD_none,show(1:Int) > 0 by decide,if_true];by_cases h:i<0
   ·simp only[h,if_true]<;>omega
   ·simp only[h,if_false]<;>omega
def ki (its:LU)(lo hi:OI):slicePick its.toArray lo hi none=((its.drop (HT.cu its.length 0 lo)).take (HT.cu its.length its.length hi - HT.cu its.length 0 lo)).toArray:=by
 obtain⟨h1,h2,h3⟩:=lx lo hi its.toArray.size;unfold slicePick;rw[h1,h2,h3];simp only[sliceRange_one,pick_run,vH]<;>rfl
def BX (K:Frag):V->OI->OI->Hp->VK->Prop:=λx lo hi H Q=>∃a xs,x=.ref a/\fz K H a xs/\∀p,H p=none->Q (.ref p) (upd H p (.lst (kh xs lo hi)))
def uj:qS X (BX X.K):=by
 intro ac s σ H x v vl U lo hi sl Q I O hs pl T h;obtain⟨a,xs,rfl,hx,q⟩:=h;cases O
 obtain⟨its,r,M,hz⟩:=I.list hx;have G:=r.length;refine⟨"list",_,slot_list_getitem.lookup,M.isList.typeIs,?_⟩;refine wpAny_getItem_list_slice M.isList hs pl T .none (by simp) ?_ (by rw[vH]<;>omega)
 rw[ki,←G];refine⟨.ref s.heap.objs.size,_,I.laid (t':=s.toks) (o:=.lst (kh xs lo hi)) (λb ob q=>vZ _ q) (vT _) ?_,rfl,q _ (I.hok.fresh (vT _))⟩;exact⟨vR (iP xs lo hi) hz,_,0,(r.drop (HT.cu xs.length 0 lo)).take (HT.cu xs.length xs.length hi - HT.cu xs.length 0 lo),vY _ rfl⟩
noncomputable def gv:V->Bool
 |.non=>true
 |.bl _=>true
 |.int _=>true
 |.str _=>true
 |_=>false
def tL:V->V->Bool
 |.non,.non=>true
 |.bl a,.bl b=>a == b
 |.bl a,.int b=>(if a then 1 else 0) == b
 |.int a,.bl b=>a == (if b then 1 else 0)
 |.int a,.int b=>a == b
 |.str a,.str b=>a == b
 |_,_=>false
def xq (M:aT y u)(G:aT x v)(T:gv y=true)(O:gv x=true):SeqAt.EqAt A s u v (tL y x):=by
 cases y with
 |non=>
  cases M
  cases x with
  |non=>cases G;exact SeqAt.EqAt.same _
  |bl b=>cases G;exact SeqAt.EqAt.none_bool b
  |int b=>obtain⟨t,rfl⟩:=G;exact SeqAt.EqAt.none_int b t
  |str b=>obtain⟨t,rfl⟩:=G;exact SeqAt.EqAt.none_str b t
  |_=>exact absurd (show false=true from O) uY
 |bl a=>
  cases M
  cases x with
  |non=>cases G;exact SeqAt.EqAt.bool_none a
  |bl b=>cases G;exact SeqAt.EqAt.bool_bool a b
  |int b=>obtain⟨t,rfl⟩:=G;exact SeqAt.EqAt.bool_int a b t
  |str b=>obtain⟨t,rfl⟩:=G;exact SeqAt.EqAt.bool_str a b t
  |_=>exact absurd (show false=true from O) uY
 |int a=>
  obtain⟨t',rfl⟩:=M;cases x with
  |non=>cases G;exact SeqAt.EqAt.int_none a t'
  |bl b=>cases G;exact SeqAt.EqAt.int_bool a t' b
  |int b=>obtain⟨t,rfl⟩:=G;exact SeqAt.EqAt.int_int a t' b t
  |str b=>obtain⟨t,rfl⟩:=G;exact SeqAt.EqAt.int_str a t' b t
  |_=>exact absurd (show false=true from O) uY
 |str a=>
  obtain⟨t',rfl⟩:=M;cases x with
  |non=>cases G;exact SeqAt.EqAt.str_none a t'
  |bl b=>cases G;exact SeqAt.EqAt.str_bool a t' b
  |int b=>obtain⟨t,rfl⟩:=G;exact SeqAt.EqAt.str_int a t' b t
  |str b=>obtain⟨t,rfl⟩:=G;exact SeqAt.EqAt.str_str a t' b t
  |_=>exact absurd (show false=true from O) uY
 |_=>exact absurd (show false=true from T) uY
def uk (x:V)(u:Value):Bool:=match u with
 |.none=>tL .non x
 |.bool b=>tL (.bl b) x
 |.int i _=>tL (.int i) x
 |.str z _=>tL (.str z) x
 |_=>false
def rq (r:aT y u)(f:gv y=true):uk x u=tL y x:=by
 cases y with
 |non=>cases r;rfl
 |bl b=>cases r;rfl
 |int i=>obtain⟨t,rfl⟩:=r;rfl
 |str z=>obtain⟨t,rfl⟩:=r;rfl
 |_=>exact absurd (show false=true from f) uY
theorem ly:∀ {xs:List V}{us:LU},aX xs us->xs.all gv=true->us.any (uk x)=xs.any λy=>tL y x
 |_,_,.nil,_=>rfl
 |y::xs,u::us,.cons r t,f=>by
  rw[all_cons,vD]at f;rw[any_cons,any_cons,rq r f.1,ly t f.2]
theorem j0 (G:aT x v)(M:gv x=true):∀ {xs:List V}{us:LU},aX xs us->xs.all gv=true->∀u∈us,SeqAt.EqAt A s u v (uk x u)
 |_,_,.nil,_=>λu hu=>by cases hu
 |y::xs,u::us,.cons r t,f=>λO hu=>by
  rw[all_cons,vD]at f;rcases mem_cons.mp hu with rfl|hu
  ·rw[rq r f.1];exact xq r G f.1 M
  ·exact j0 G M t f.2 O hu
def Bw (x:V)(xs:List V):Bool:=xs.any λy=>tL y x
def Ei (K:Frag)(G:Bool):R2:=λx y H Q=>∃p xs,y=.ref p/\(fz K H p xs∨eS K H p xs)/\gv x=true/\xs.all gv=true/\Q (.bl (if G then !Bw x xs else Bw x xs)) H
def qt:cF X (compareOp .In) (Ei X.K false):=by
 intro ac s σ H x y v u Q I G O h;obtain⟨p,xs,rfl,hq,M,fs,q⟩:=h;cases O
 rcases hq with hq|hq
 ·obtain⟨its,r,pl,hz⟩:=I.list hq;refine SeqAt.in_listAt (uk x) pl.isList (λw hw=>j0 G M r fs w (by simpa using hw)) ⟨.bl _,H,I,rfl,?_⟩;rw[show its.toArray.any (uk x)=its.any (uk x) by simp,ly r fs];exact q
 ·obtain⟨its,r,pl,hz⟩:=I.tuple hq;refine SeqAt.in_tupleAt (uk x) pl (λw hw=>j0 G M r fs w (by simpa using hw)) ⟨.bl _,H,I,rfl,?_⟩;rw[show its.toArray.any (uk x)=its.any (uk x) by simp,ly r fs];exact q
def lz:bT X (.builtin "len") (λxs H Q=>∃p ys,xs=[.ref p]/\(fz X.K H p ys∨eS X.K H p ys)/\Q (.int ys.length) H):=by
 intro ac s σ H xs us Q I r h;obtain⟨p,ys,rfl,hq,q⟩:=h;obtain⟨u,rfl,O⟩:=ku r;cases O
 have hn:=im;rcases hq with hq|hq
 ·obtain⟨its,M,pl,hz⟩:=I.list hq;have G:=M.length;exact Calls.call_len_list pl.isList (by simp only[vH]<;>omega) ⟨.int ys.length,H,I.tok _,⟨s.toks+1,by rw[vH,G]⟩,q⟩
 ·obtain⟨its,M,pl,hz⟩:=I.tuple hq;have G:=M.length;exact len_tuple pl (by simp only[vH]<;>omega) ⟨.int ys.length,H,I.tok _,⟨s.toks+1,by rw[vH,G]⟩,q⟩
def l0:bT X (.builtin "len") (λxs H Q=>∃z,xs=[.str z]/\z.length<=sizeLine/\Q (.int z.length) H):=by
 intro ac s σ H xs us Q I r h;obtain⟨z,rfl,hz,q⟩:=h;obtain⟨u,rfl,t,rfl⟩:=ku r;have hn:=im;exact len_str (by omega) ⟨.int z.length,H,I.tok _,⟨_,rfl⟩,q⟩
def bT.or (h:bT X f r)(h':bT X f r'):bT X f (λxs H Q=>r xs H Q∨r' xs H Q):=by
 intro ac s σ H xs us Q I G q;rcases q with q|q
 ·exact h ac s σ H xs us Q I G q
 ·exact h' ac s σ H xs us Q I G q
def l5:bT X (.type "list") (λxs H Q=>∃p ys,xs=[.ref p]/\(fz X.K H p ys∨eS X.K H p ys)/\∀l,H l=none->Q (.ref l) (upd H l (.lst ys))):=by
 intro ac s σ H xs us Q I r h;obtain⟨p,ys,rfl,hq,q⟩:=h;obtain⟨u,rfl,rx⟩:=ku r;cases rx
 have O:∀(its:LU),aX ys its->ys.length<=sizeLine->∀(h':Heap)(G:Nat),(∀b o',s.heap.get? b=some o'->h'.get? b=some o') ->
   h'.get? s.heap.objs.size=some { cls:=.type "list",dict:=none,data:=.seq its.toArray G,slots:=#[] }->EP X ac σ Q (.ref s.heap.objs.size) { s with heap:=h' }:=λits M hz h' G kp e=>
  ⟨.ref s.heap.objs.size,_,I.laid (t':=s.toks) kp (vT _) (show bN X.prog X.w _ h' _ (.lst ys)from ⟨hz,its,G,M,e⟩),rfl,q _ (I.hok.fresh (vT _))⟩
 rcases hq with hq|hq
 ·obtain⟨its,M,pl,hz⟩:=I.list hq;have T:=M.length;obtain⟨o,U,hc,n,hd⟩:=pl.isList;exact call_list_seq p (.inl rfl) U hc hd (λh' G kp e=>O its M hz h' G kp e) (by simp only[vH]<;>omega)
 ·obtain⟨its,M,pl,hz⟩:=I.tuple hq;have T:=M.length;obtain⟨o,U,hc,n,hd⟩:=pl;exact call_list_seq p (.inr rfl) U hc hd (λh' G kp e=>O its M hz h' G kp e) (by simp only[vH]<;>omega)
def kj:bT X (.type "tuple") (λxs H Q=>∃p ys,xs=[.ref p]/\((fz X.K H p ys/\∀l,H l=none->Q (.ref l) (upd H l (.tup ys)))∨(eS X.K H p ys/\Q (.ref p) H))):=by
 intro ac s σ H xs us Q I r h;obtain⟨p,ys,rfl,h⟩:=h;obtain⟨u,rfl,T⟩:=ku r;cases T
 rcases h with⟨hq,q⟩|⟨hq,q⟩
 ·obtain⟨its,G,pl,hz⟩:=I.list hq;have M:=G.length;refine call_tuple_list pl.isList (λh' kp=>?_) (by simp only[vH]<;>omega)
  have O:Inv X ac σ H { s with heap:=h' }:=I.kept (t':=s.toks) kp;have U:Inv X ac σ (upd H h'.objs.size (.tup ys)) { s with heap:=h'.push { cls:=.type "tuple",data:=.seq its.toArray } } :=
   O.laid (t':=s.toks) (λb o e=>vZ _ e) (vT _) (show bN X.prog X.w _ _ _ (.tup ys)from ⟨hz,its,G,IsTup.new _ _⟩)
  exact⟨.ref h'.objs.size,_,U,rfl,q _ (O.hok.fresh (vT _))⟩
 ·obtain⟨its,G,pl,hz⟩:=I.tuple hq;exact call_tuple_same pl ⟨.ref p,H,I,rfl,q⟩
def Dk (K:Frag)(T:String)(x:V)(H:Hp):Prop:=match x with
 |.str _=>T = "str"
 |.int _=>T = "int"
 |.ref p=>(T = "list"/\∃xs,fz K H p xs)∨(T = "tuple"/\∃o,K.lookup p=some o/\o.cls=.type "tuple"/\o.dict=none) ∨
   (T = "dict"/\((∃aI ob,H p=some (.dK aI ob))∨∃aI,H p=some (.dT aI)))∨(T = "set"/\∃S n,H p=some (.set S n))
 |_=>False
def xr (I:Inv X ac σ H s)(r:aT x v)(ty:Dk X.K T x H):
  s.TypeIs v T/\∀a,v=.ref a->∃ob,s.heap.get? a=some ob/\ob.dict=none:=by
 cases x with
 |str z=>
  obtain⟨t,rfl⟩:=r;cases (show T = "str" from ty)
  exact⟨typeIs_str s z t,λ_ e=>nomatch e⟩
 |int i=>
  obtain⟨t,rfl⟩:=r;cases (show T = "int" from ty)
  exact⟨typeIs_int s i t,λ_ e=>nomatch e⟩
 |ref p=>
  cases r
  rcases ty with⟨rfl,xs,hq⟩|⟨rfl,o,hk,hc,hd⟩|⟨rfl,hk⟩|⟨rfl,S,n,hk⟩
  ·obtain⟨its,_,pl,_⟩:=I.list hq;refine⟨pl.isList.typeIs,λa e=>?_⟩;cases e
   obtain⟨o,n,e,c,hd,_⟩:=pl;exact⟨o,e,hd⟩
  ·refine⟨⟨o,I.kIn p o hk,hc⟩,λa e=>?_⟩;cases e
   exact⟨o,I.kIn _ o hk,hd⟩
  ·have z:∃o,s.heap.get? p=some o/\o.ExactDict:=by
    rcases hk with⟨aI,M,hk⟩|⟨aI,hk⟩
    ·obtain⟨_,_,_,_,_,o,_,_,e,ex,_⟩:=I.hok p _ hk;exact⟨o,e,ex⟩
    ·obtain⟨_,_,_,_,o,_,_,e,ex,_⟩:=I.hok p _ hk;exact⟨o,e,ex⟩
   obtain⟨o,e,ex⟩:=z;refine⟨⟨o,e,ex.1⟩,λa G=>?_⟩;cases G
   exact⟨o,e,ex.2.1⟩
  ·obtain⟨o,_,_,_,e,ex,_⟩:=I.hok p _ hk;refine⟨⟨o,e,ex.1⟩,λa G=>?_⟩;cases G
   exact⟨o,e,ex.2.1⟩
 |_=>exact False.elim ty
def Ej (K:Frag)(T:String)(r:V->List V->Hp->VK->Prop)(to:TE)(t:TA):TE:=λσ H Q=>to σ H λx G=>Dk K T x G/\t σ G λxs H2=>r x xs H2 Q
variable {o e:Expr}{es:QD}{to:TE}{t:TA}{name:Str}{dQ cz:Pos}{T id:String}{r:V->List V->Hp->VK->Prop}
def r6 (pa:PlainAttrs T)(slot:Slot T name id)(CD:typeOf (.builtin id)=pure (.type "method_descriptor"))(hm:ui X id r)(ho:PE X o to)(ha:PA X (e::es) t)
  (M:attributeBase o name X.env (eval o X.env)=eval o X.env:=by rfl)
  (U:((backTo cz (starEach (e::es) X.env)).all (λx=>!x.1) && (backToKw cz (keywordEach [] X.env)).all (λx=>x.1.isSome)
   && decide ((e::es).length+([]:List Keyword).length+(if([]:List Keyword).isEmpty then 0 else 1)<30))=true:=by rfl)
  (O:(dQ.endLine == cz.line)=true:=by rfl) (hs:starEach (e::es) X.env=(false,eval e X.env)::starEach es X.env:=by rfl) (G:(backTo cz (starEach es X.env)).any (·.1)=false:=by rfl):
  PE X (.Call (.Attribute o name dQ) (e::es) [] cz) (Ej X.K T r to t):=by
 intro ac s σ H Q I h;refine wpAny_Call_method_late M U O rfl (bV (ho ac s σ H _ I h) λv s1 ⟨x,H1,I1,r1,ty,q1⟩=>?_);obtain⟨h1,h2⟩:=xr I1 r1 ty;refine⟨T,id,pa,slot,CD,h1,h2,?_⟩;have hA:=ha cz ac s1 σ H1 _ I1 q1;rw[hs]at hA ⊢;refine Calls.callWith_builtin (by show(false || (backTo cz (starEach es X.env)).any (·.1))=false;rw[G]<;>rfl) (Calls.evalArgs_plain ?_)
 exact bV hA λus s2 ⟨vs,H2,I2,r2,q2⟩=>hm ac s2 σ H2 x vs v us Q I2 r1 r2 q2
/- xs.append(e),list.index on a module's tuple .. are ui facts of 06m -/
end
def Ek (X:Cx)(id:String)(r:V->List V->Hp->VK->Prop):Prop :=
 ∀(ac:AO)(s:Shared)(σ:St)(H:Hp)(x:V)(xs:List V)(v:Value)(us:LU)(Q:VK),Inv X ac σ H s->aT x v->aX xs us->r x xs H Q ->
  wq X (call (.builtin id) (v::us)) (EP X ac σ Q) X.xe s
theorem aX.one:∀ {x:V}{us:LU},aX [x] us->∃u,us=[u]/\aT x u
 |_,_,.cons r .nil=>⟨_,rfl,r⟩
theorem aX.two:∀ {x y:V}{us:LU},aX [x,y] us->∃u v,us=[u,v]/\aT x u/\aT y v
 |_,_,_,.cons r (.cons q .nil)=>⟨_,_,rfl,r,q⟩
theorem aX.zero:∀ {us:LU},aX [] us->us=[]
 |_,.nil=>rfl
theorem aX.rep (h:aX xs us):∀k:Nat,aX (List.replicate k xs).flatten (List.replicate k us).flatten
 |0=>.nil
 |k+1=>by
  rw[replicate_succ,replicate_succ,flatten_cons,flatten_cons];exact aX.append h (aX.rep h k)
theorem kA (its:LU):∀(k:Nat)(G:LU),
  List.foldl (λM O=>M++O) G.toArray (List.replicate k its.toArray)=(G++(List.replicate k its).flatten).toArray
 |0,G=>by simp
 |k+1,G=>by
  have e:G.toArray++its.toArray=(G++its).toArray:=by simp
  have T:(G++its)++(List.replicate k its).flatten=G++(List.replicate (k+1) its).flatten:=by
   rw[replicate_succ,flatten_cons,append_assoc]
  rw[←T,←kA its k (G++its),←e,replicate_succ,List.foldl_cons]
section
variable {X:Cx}{ac:AO}{σ:St}{H:Hp}{s:Shared}{l b:Addr}{xs ys zs:List V}
def Inv.lset {its its':LU}{n:Nat}{f:AV->AV}{t':Nat}(I:Inv X ac σ H s)(G:H l=some (.lst xs))
  (e:s.heap.get? l=some { cls:=.type "list",data:=.seq its.toArray n }) (M:f its.toArray=its'.toArray) (O:aX ys its') (hz:ys.length<=sizeLine):
  Inv X ac σ (upd H l (.lst ys)) { s with heap:=s.heap.update l (Obj.mapSeq f),toks:=t' }:=by
 have q:=PySem.IsL.update e f;rw[M]at q;refine I.write (x:=l) (e:=l) (by rw[G];exact trivial) (.inl rfl) (λT u hb hu=>(Heap.get?_update_other s.heap (Obj.mapSeq f) (Ne.symm hb)).trans hu) ⟨_,q⟩ ?_;exact⟨hz,its',_,O,q⟩
def Inv.lnew (I:Inv X ac σ H s)(G:aX ys its)(hz:ys.length<=sizeLine):
  Inv X ac σ (upd H s.heap.objs.size (.lst ys)) { s with heap:=s.heap.push { cls:=.type "list",data:=.seq its.toArray },toks:=t' } :=
 I.laid (λ_ _ q=>vZ _ q) (vT _) ⟨hz,its,0,G,vY _ rfl⟩
def Inv.fresh (I:Inv X ac σ H s):H s.heap.objs.size=none:=I.hok.fresh (vT _)
def Inv.lstM (I:Inv X ac σ H s)(G:H l=some (.lst xs)):xs.length<=sizeLine/\∃(its:LU)(n:Nat),aX xs its/\xs.length=its.length/\s.heap.get? l=some { cls:=.type "list",data:=.seq its.toArray n }:=by
 obtain⟨z,its,n,r,e⟩:=I.hok l _ G;exact⟨z,its,n,r,r.length,e⟩
end
section
variable {X:Cx}
def ph:V->List V->Hp->VK->Prop:=λx vs H Q=>∃l xs y,x=.ref l/\vs=[y]/\H l=some (.lst xs)/\xs.length<sizeLine/\Q .non (upd H l (.lst (xs++[y])))
def kB:Ek X "list.append" ph:=by
 intro ac s σ H x vs v us Q I M O h;obtain⟨l,xs,y,rfl,rfl,G,hz,q⟩:=h;cases M
 obtain⟨u,rfl,T⟩:=O.one;obtain⟨z,its,n,r,hl,e⟩:=I.lstM G;refine call_meets F.slot_list_append ⟨_,e,rfl⟩ F.entry_list_append (F.args_list_append_2 _ _) (PySem.list_append l its.toArray n u (by rw[vH];omega)) ⟨e,?_⟩;refine⟨.non,_,I.lset (its':=its++[u]) G e (by simp) (r.append (.cons T .nil)) ?_,rfl,q⟩;rw[vA,length_singleton];omega
def pi {α:Type}(xs:List α)(k:Nat):(List.replicate k xs).flatten.length=k*xs.length:=by
 induction k with
 |zero=>simp
 |succ k G=>rw[replicate_succ,flatten_cons,vA,G,Nat.succ_mul,Nat.add_comm]
end
end L2
namespace Att
open PySem PySem.W PySem.Calls PyProof.Rows
def ji:∀(ns:LI)(vs:LU),WellAll P h vs (ns.map WData.int)->IntsAre vs ns:=by
 intro ns;induction ns with
 |nil=>
  intro vs w;rw[map_nil]at w;cases w
  exact .nil
 |cons n ns G=>
  intro vs w;rw[map_cons]at w;cases w with
  |cons a b=>
   cases a
   exact .cons _ _ (G _ b)
def qu {l:OpenLaw}{n:Nat}(hn:l.most=some n){P:Params}{h:Heap}{args:List WData}{vals:LU}
  (G:l.row.toRowW.claim.pre args=true) (T:WellAll P h vals args):
  ∃a vs ns,vals=[Value.ref a]/\args=[WData.list (ns.map WData.int)]/\h.get? a=some { cls:=.type "list",data:=.seq vs.toArray }/\IntsAre vs ns/\ns.length<=n:=by
 have U:WShape.hasAll [] args [.list .int]=true:=(pre_splitW G).1;have hc:l.pre.holds [] { args:=args }=true:=(pre_splitW G).2;obtain⟨d,r,rfl,h1,h2⟩:=hasAllW_cons U;obtain rfl:=hasAllW_nil h2;obtain⟨xs,rfl,h3⟩:=hasW_list h1;obtain⟨ns,rfl⟩:=items_int h3;have M:ns.length<=n:=by
  unfold OpenLaw.pre at hc;have h4:(WTm.not (.lt (.lit (.int (n:Int))) (.len (.arg 0)))).holds [] { args:=[.list (ns.map .int)] }=true:=by
   have h4:=(holds_andW hc).1;rw[hn]at h4;exact h4
  have h5:=condW_of h4 (w_not (w_lt w_lit (w_len_list (w_arg rfl))));rw[vI]at h5;refine Nat.le_of_not_lt λq=>?_;have q':(n:Int)<((ns.length:Nat):Int):=by omega
  first
   | (rw[decide_eq_true q']at h5;exact absurd h5 (by decide))
   | (simp at h5;omega)
 cases T with
 |cons w1 w2=>
  cases w2
  cases w1 with
  |list ho O=>exact⟨_,_,ns,rfl,rfl,ho,ji ns _ O,M⟩
def qv (l:OpenLaw)(args:List WData):l.row.toRowW.claim.post args (.bool true) args=true :=
 postW_of (r:=l.row.toRowW) (X:=(true == true))
  (show WShape.has [] (.bool true) .bool=true by first|rfl|decide|simp[WShape.has,WShape.arms,WShape.armsAll])
  (show(WTm.eq .res (.lit (.bool true))).value [] { args:=args,res:=some (.bool true),after:=args }=some (.bool (true == true))from w_eq_bool (w_res rfl) w_lit) rfl
def ma {l:OpenLaw}{n:Nat}{q:Program}{O:LS}{XP:SV->Heap->Prop}{YP:World->Heap->Prop}{d:DefRec}
  (hn:l.most=some n) (CF:d.params.defaults=[])
  (call:∀(w:World)(s₀ M:Shared)(mg mb:SV)(U:Addr)(o:Obj)(pm cd doc:Value)(a:Addr)(vs:LU)(ns:LI),
   Ground q O [] XP w s₀ mg mb M.heap->YP w M.heap ->
   M.heap.get? U=some o->o.data=.func (docDef d.name d.params d.body d.scope pm cd doc)->M.heap.CodeRec cd d.name->mg d.name=some (.ref U) ->
   M.heap.get? a=some { cls:=.type "list",data:=.seq vs.toArray }->IntsAre vs ns->ns.length<=n->M.gens=#[] ->
   codeAny (model l.prog w) callerA (.call (.ref U) ⟨[.ref a],[]⟩) (λr s'=>r=.ok (.ret (.bool true))/\OldK M.heap s'.heap/\s'.os=M.os/\AllBare s'.gens) M):
  WalkO q O XP YP l.row.toRowW d [] (λf vs=>PySem.call f vs):=by
 intro w s₀ M mg mb G Y U o pm cd doc dV kV ho hd wD hD hmg hg args vals as hpre hlay hrd hwl hlo;obtain rfl:dV=.none:=Dflts.none hD CF;obtain rfl:kV=.none:=Dflts.noKw hD;obtain⟨a,vs,ns,rfl,rfl,yM,T,tJ⟩:=qu hn hpre hwl;refine enter_call (codeAny_mono (call w s₀ M mg mb U o pm cd doc a vs ns G Y ho (fd_plain hd) wD hmg yM T tJ hg) λr s' hq=>?_);obtain⟨rfl,h2,h3,h4⟩:=hq;exact⟨.inl ⟨.bool true,.bool true,[],rfl,λ_=>rfl,.bool true,qv l _,λ_=>⟨List.Pairwise.nil,λ_ hm=>(nomatch hm)⟩⟩,h2,h3,h4⟩
section
variable {prog:Program}{w:World}{A:Around}{E:QV}{s:Shared}{K:Frag}
end
end Att
namespace L2
open PySem PySem.Spec PyProof.Rows
theorem gj:∀ {vs:LU}{ns:LI},IntsAre vs ns->aX (ns.map V.int) vs
 |_,_,.nil=>.nil
 |_,_,.cons n t h=>.cons ⟨t,rfl⟩ (gj h)
noncomputable def dv (s:Stmt):Arguments:=match s with
 |.FunctionDef _ a _ _ _ _ _ _ _ _=>a
 |_=>{ posonlyargs:=[],args:=[],vararg:=none,kwonlyargs:=[],kw_defaults:=[],kwarg:=none,defaults:=[] }
noncomputable def bX (s:Stmt):List Stmt:=match s with
 |.FunctionDef _ _ b _ _ _ _ _ _ _=>b
 |_=>[]
noncomputable def aG (s:Stmt):Scope:=match s with
 |.FunctionDef _ _ _ _ _ _ sc _ _ _=>sc
 |_=>{ kind:=.function,names:=[],isGenerator:=false,isCoroutine:=false }
abbrev nM:ub:=λ_ _ _ _ _ _=>False
abbrev E0:XK:=λ_ _ _=>False
def wb:nI nM X E0:=λ_ _ _ _ _ _ _ h=>h.elim
structure yN (K:Frag)(x qual:Str)(st:Stmt)(f:Addr)(fd:FuncData):Prop where
 ex:∃(oc:Value)(od:Option Addr)(kV doc pm:Value)(an:Option Addr)(cL ct:Value)(kf:Array (Option Value)),
  fd=fnOf x qual (dv st) (bX st) (aG st) .none kV doc pm an cL ct/\K.lookup f=some ⟨oc,od,.func fd,kf⟩/\PySem.W.codeIn K cL qual=true
 kp:PySem.W.keepIn K (.ref f)=true
section
variable {P:Program}{w:World}{K:Frag}{mg:SV}{base:Heap}
def yN.ok {x qual:Str}{st:Stmt}{f:Addr}{fd:FuncData}{N ps:LS}{k:Nat}{sp:Sp}(F:yN K x qual st f fd)(S:FnScope N ps (aG st))(len:∀vs H Q E,sp vs H Q E->vs.length=ps.length)
  (G:∀(cL:Value)(A:Around)(outer:List Env)(s:Shared)(H:Hp)(vs:List V)(Q:VK)(E:XK),dH k (A.deeper (envOfC qual (aG st) s.heap.objs.size f cL))->sp vs H Q E ->
   ∃t,lr (jh nM P w K mg base N qual (aG st) f cL A outer s H E).nox (bX st) t/\t { nx:=λ_ H'=>Q .non H',rt:=Q } (fM N vs) H):iN P w K mg base nM (k+1) f fd ps sp:=by
 obtain⟨oc,od,kV,doc,pm,an,cL,ct,kf,rfl,T,M⟩:=F.ex;refine wa T M S len λA outer s H vs Q E hr O=>?_;obtain⟨t,h,q⟩:=G cL A outer s H vs Q E hr O;exact⟨t,h.nox,q⟩
def yN.binds {x qual:Str}{st:Stmt}{f:Addr}{fd:FuncData}{ps:LS}(F:yN K x qual st f fd)
  (h:∀(kV doc pm:Value)(an:Option Addr)(cL ct:Value)(us:LU),us.length=ps.length->bindArgs (fnOf x qual (dv st) (bX st) (aG st) .none kV doc pm an cL ct) ⟨us,[]⟩=pure (ps.zip us)):kx K fd ps []:=by
 obtain⟨oc,od,kV,doc,pm,an,cL,ct,kf,rfl,M,G⟩:=F.ex;exact .all (h kV doc pm an cL ct)
def xu {x qual:Str}{st:Stmt}{f:Addr}{oc:Value}{od an:Option Addr}{kf:Array (Option Value)}{kV doc pm cL ct:Value}(l:K.lookup f=some ⟨oc,od,.func (fnOf x qual (dv st) (bX st) (aG st) .none kV doc pm an cL ct),kf⟩)
  (c:PySem.W.codeIn K cL qual=true) (k:PySem.W.keepIn K (.ref f)=true):yN K x qual st f (fnOf x qual (dv st) (bX st) (aG st) .none kV doc pm an cL ct):=⟨⟨oc,od,kV,doc,pm,an,cL,ct,kf,rfl,l,c⟩,k⟩
end
def aQ (H H':Hp):Prop:=∀b o,H b=some o->H' b=some o
def aQ.refl (H:Hp):aQ H H:=λ_ _ h=>h
def aQ.trans (a:aQ H H1)(b:aQ H1 H2):aQ H H2:=λc o h=>b c o (a c o h)
def aQ.free (e:aQ H H')(h:H' l=Option.none):H l=Option.none:=by
 cases q:H l with
 |none=>rfl
 |some o=>
  rw[e l o q]at h;cases h
def aQ.seq {K:Frag}{H H':Hp}{a:Addr}{xs:List V}(e:aQ H H')(h:fz K H a xs):fz K H' a xs:=by
 rcases h with (h|⟨o,h⟩)|h
 ·exact .inl (.inl (e _ _ h))
 ·exact .inl (.inr ⟨o,e _ _ h⟩)
 ·exact .inr h
section
variable {κ:Type}[DecidableEq κ]
noncomputable def g0 (aI:List (κ×V))(k:κ):Option V:=(aI.find? λG=>decide (G.1=k)).map (·.2)
def io (aI:List (κ×V))(k:κ)(v:V):List (κ×V) :=
 if(aI.any λG=>decide (G.1=k))=true then aI.map (λG=>if G.1=k then (G.1,v)else G)else aI++[(k,v)]
def gP {p:κ×V}{r:List (κ×V)}{k:κ}(e:p.1=k):g0 (p::r) k=some p.2:=by simp[g0,find?_cons,e]
def gQ {p:κ×V}{r:List (κ×V)}{k:κ}(e:¬p.1=k):g0 (p::r) k=g0 r k:=by simp[g0,find?_cons,e]
theorem md (k:κ):∀aI:List (κ×V),(aI.any λG=>decide (G.1=k))=(g0 aI k).isSome
 |[]=>rfl
 |p::r=>by
  rw[any_cons];by_cases e:p.1=k
  ·simp only[gP e,decide_eq_true e,Bool.true_or,Option.isSome_some]
  ·rw[gQ e,decide_eq_false e,Bool.false_or];exact md k r
def me (aI:List (κ×V))(k:κ)(v:V):(io aI k v).length<=aI.length+1:=by
 unfold io;split
 ·rw[vI];omega
 ·rw[vA,vE,List.length_nil];omega
def mf {aI:List (κ×V)}{k:κ}(v:V)(h:g0 aI k=none):io aI k v=aI++[(k,v)]:=by
 unfold io;rw[md,h];exact if_neg (by decide)
def kg.getD (r:kg o u)(G:aT d d'):aT (o.getD d) (u.getD d'):=by
 cases o with
 |none=>cases u with
  |none=>exact G
  |some _=>exact(show False from r).elim
 |some _=>cases u with
  |none=>exact(show False from r).elim
  |some _=>exact r
def KV.val {aI:List (κ×V)}{vs:List (κ×Value)}(r:KV aI vs)(k:κ):kg (g0 aI k) (valueAt vs k):=by
 unfold KV at r;induction r with
 |nil=>exact True.intro
 |@cons p q ps G h t O=>
  obtain⟨h1,h2⟩:=h;by_cases e:p.1=k
  ·have M:q.1=k:=h1.symm.trans e;have b:valueAt (q::G) k=some q.2:=by simp[valueAt,find?_cons,M]
   rw[gP e,b];exact h2
  ·have M:¬q.1=k:=λz=>e (h1.trans z);have b:valueAt (q::G) k=valueAt G k:=by simp[valueAt,find?_cons,M]
   rw[gQ e,b];exact O
def KV.any (r:KV aI vs)(k:κ):(aI.any λG=>decide (G.1=k))=vs.any λG=>decide (G.1=k):=by
 unfold KV at r;induction r with
 |nil=>rfl
 |cons h t M=>rw[any_cons,any_cons,M,h.1]
def KV.repl (r:KV aI vs)(k:κ)(M:aT y u):
  KV (aI.map λG=>if G.1=k then (G.1,y)else G) (vs.map λG=>if G.1=k then (G.1,u)else G):=by
 unfold KV at r ⊢;induction r with
 |nil=>exact .nil
 |@cons p q ps T h t O=>
  rw[map_cons,map_cons];refine .cons ?_ O;obtain⟨h1,h2⟩:=h;by_cases e:p.1=k
  ·rw[if_pos e,if_pos (h1.symm.trans e)];exact⟨h1,M⟩
  ·rw[if_neg e,if_neg (λz=>e (h1.trans z))];exact⟨h1,h2⟩
def KV.put (r:KV aI vs)(k:κ)(G:aT y u):KV (io aI k y) (stored vs k u):=by
 unfold io stored;rw[r.any k];by_cases e:(vs.any λM=>decide (M.1=k))=true
 ·rw[if_pos e,if_pos e];exact r.repl k G
 ·rw[if_neg e,if_neg e];exact Paired.snoc r ⟨rfl,G⟩
def KV.length (r:KV aI vs):aI.length=vs.length:=Paired.length r
end
def rA (r:aT (kV k) u):(cj P w).is k u=true:=by
 cases k with
 |inl i=>obtain⟨t,e⟩:=(show ∃t,u=Value.int i t from r);subst e;exact lR P w i t
 |inr x=>obtain⟨t,e⟩:=(show ∃t,u=Value.str x t from r);subst e;exact lS P w x t
theorem kC:∀ {ks:List dh}{us:LU},aX (ks.map kV) us->ItemsAre (cj P w) ks us
 |[],_,r=>by rw[map_nil]at r;cases r;exact .nil
 |k::ks,_,r=>by
  rw[map_cons]at r;cases r with
  |cons h t=>exact .cons (rA h) (kC t)
abbrev KT (H:Hp):List (List dh×V)->List (List dh×Addr×Value)->Prop:=Paired λp q=>p.1=q.1/\H q.2.1=some (.tup (p.1.map kV))/\aT p.2 q.2.2
def KT.val {H:Hp}{aI:List (List dh×V)}{xs:List (List dh×Addr×Value)}(r:KT H aI xs)(k:List dh):kg (g0 aI k) ((atKey xs k).map (·.2)):=by
 induction r with
 |nil=>exact True.intro
 |@cons p q ps G h t O=>
  obtain⟨h1,_,h2⟩:=h;by_cases e:p.1=k
  ·have M:q.1=k:=h1.symm.trans e;have b:atKey (q::G) k=some q.2:=by simp[atKey,find?_cons,M]
   rw[gP e,b];exact h2
  ·have M:¬q.1=k:=λz=>e (h1.trans z);have b:atKey (q::G) k=atKey G k:=by simp[atKey,find?_cons,M]
   rw[gQ e,b];exact O
section
variable {P:Program}{w:World}{H:Hp}{h:Heap}{a:Addr}
def wc (ok:gL P w H h)(e:Rd H a u):bN P w H h a u:=e.ok ok
def rB (ok:gL P w H h)(e:Rd H a (.dK aI ob)):aI.length<=sizeLine/\(a == sysModules)=false/\∃vs,KV aI vs/\h.DictOf (cj P w) a vs :=
 And.right (show bN P w H h a (.dK aI ob)from wc ok e)
def zS (ok:gL P w H h)(e:H a=some (.dK aI ob)):aI.length<=sizeLine/\(a == sysModules)=false/\∃vs,KV aI vs/\h.DictOf (cj P w) a vs:=rB ok (.inl e)
def rC (ok:gL P w H h)(e:H a=some (.tup (ks.map kV))):(tupleKind (cj P w)).is h ks a:=by
 obtain⟨_,its,r,o,h1,h2,n,h3⟩:=(show bN P w H h a (.tup (ks.map kV))from ok a _ e);exact⟨o,its.toArray,n,h1,h2,h3,by simpa using kC r⟩
def wd (ok:gL P w H h)(e:Rd H a (.dT aI)):aI.length<=sizeLine/\(a == sysModules)=false /\
  ∃xs,KT H aI xs/\h.DictOfH (tupleKind (cj P w)) a xs:=by
 obtain⟨z,y,xs,r,o,es,G,h1,h2,h3,h4,h5⟩:=(show bN P w H h a (.dT aI)from wc ok e);refine⟨z,y,xs,r,o,es,G,h1,h2,h3,h4,λx hx=>?_,h5⟩;have all:∀ {l:List (List dh×V)}{m:List (List dh×Addr×Value)},KT H l m->∀x∈m,(tupleKind (cj P w)).is h x.1 x.2.1:=by
  intro l m q;induction q with
  |nil=>intro x hx;exact nomatch hx
  |@cons p q ps O hq t M=>
   intro x hx;rcases mem_cons.mp hx with e|hx
   ·subst e;exact rC ok (by rw[←hq.1];exact hq.2.1)
   ·exact M x hx
 exact all r x hx
end
def ul (H:Hp)(a:Addr)(y:V)(r:Option V):Prop :=
 (∃aI k ob,Rd H a (.dK aI ob)/\y=kV k/\r=g0 aI k)∨∃aI k b,Rd H a (.dT aI)/\y=.ref b/\H b=some (.tup (k.map kV))/\r=g0 aI k
def ul.t (e:H a=some (.dT aI))(G:H b=some (.tup (k.map kV))):ul H a (.ref b) (g0 aI k):=.inr ⟨aI,k,b,.inl e,rfl,G,rfl⟩
section
variable {X:Cx}{ac:AO}{σ:St}{H:Hp}{s:Shared}{a:Addr}{y v:V}{u r:Value}{o:Option V}{A:Around}{E:QV}
def Inv.big (I:Inv X ac σ H s):sysModules<s.heap.objs.size:=by
 have h:mainGlobals<s.heap.objs.size:=(I.mod.glob.keeps I.bk).lt;exact Nat.lt_trans (by decide) h
def um (I:Inv X ac σ H s)(G:zi (H a))(hs:Heap.SameBut a s.heap h')(he:∃q,h'.get? a=some q)(new:bN X.prog X.w (upd H a ob) h' a ob):
  Inv X ac σ (upd H a ob) { s with heap:=h',toks:=t' } :=
 I.write (x:=a) (e:=a) G (.inl rfl) (λb q hb z=>(hs.2 b hb).trans z) he new
def xw (z:aI.length<=sizeLine)(hd:(a == sysModules)=false)(G:KV aI vs)(M:h'.DictOf (cj P w) a vs)(O:h'.get? a=some ob):
  bN P w H' h' a (.dK aI ob):=⟨O,z,hd,vs,G,M⟩
end
def rE (h:Heap)(hb:sysModules<h.objs.size):bN P w H (h.push { cls:=.type "dict",data:=.dict #[] }) h.objs.size (.dK [] { cls:=.type "dict",data:=.dict #[] }) :=
 ⟨vY _ rfl,zero_le _,beq_eq_false_iff_ne.mpr (Ne.symm (vS hb)),[],.nil,Heap.DictOf.new h⟩
def l7:List (TE×TE)->St->Hp->(List (V×V)->Hp->Prop)->Prop
 |[],_,H,Q=>Q [] H
 | (G,M)::r,σ,H,Q=>G σ H λx O=>M σ O λy H2=>l7 r σ H2 λps T=>Q ((x,y)::ps) T
abbrev VV:List (V×V)->List (Value×Value)->Prop:=Paired λp q=>aT p.1 q.1/\aT p.2 q.2
def zU (X:Cx)(O:Pos)(M:List (Option Expr))(G:QD)(T:List (TE×TE)):Prop :=
 ∀(ac:AO)(s:Shared)(σ:St)(H:Hp)(Q:List (V×V)->Hp->Prop),Inv X ac σ H s->l7 T σ H Q ->
  wq X (evalPairs (pairTrees M G X.env O)) (λvs U=>∃ps H',Inv X ac σ H' U/\VV ps vs/\Q ps H') X.xe s
def uo:zU X pos [] [] []:=λac s σ H Q I h=>pairTrees_nil_walk ⟨[],H,I,.nil,h⟩
def rF (hk:PE X k tk)(M:PE X v tv)(hr:zU X pos ks vs trs):
  zU X pos (some k::ks) (v::vs) ((tk,tv)::trs):=λac s σ H Q I h=>
 pairTrees_cons_walk (bV (hk ac s σ H _ I h) λu s1 ⟨x,O,T,U,q1⟩=>bV (M ac s1 σ O _ T q1) λw2 s2 ⟨y,H2,I2,ry,q2⟩=>
  bV (hr ac s2 σ H2 _ I2 q2) λws s3 ⟨ps,H3,I3,G,q3⟩=>⟨(x,y)::ps,H3,I3,.cons ⟨U,ry⟩ G,q3⟩)
noncomputable def g6 (aI G:List (dh×V)):List (dh×V):=G.foldl (λM O=>io M O.1 O.2) aI
def KV.merge:∀ {G:List (dh×V)}{M:List (dh×Value)}{aI:List (dh×V)}{vs:List (dh×Value)},KV G M->KV aI vs->KV (g6 aI G) (merged vs M):=by
 intro G M aI vs r;unfold KV at r;induction r generalizing aI vs with
 |nil=>intro q;exact q
 |@cons p q ps U h t O=>
  intro T;have e:KV (io aI p.1 p.2) (stored vs q.1 q.2):=by
   have:=T.put p.1 h.2;rw[←h.1];exact this
  exact O e
theorem gx:∀(G aI:List (dh×V)),(g6 aI G).length<=aI.length+G.length
 |[],aI=>by show aI.length<=aI.length+0;omega
 |p::r,aI=>by
  have h1:=gx r (io aI p.1 p.2);have h2:=me aI p.1 p.2;show(g6 (io aI p.1 p.2) r).length<=_;rw[vE];omega
theorem j4:∀ {aI:List (dh×V)}{M:List (Value×Value)},VV (aI.map λO=>(kV O.1,O.2)) M->∃G,Carries (cj P w) M G/\KV aI G
 |[],_,r=>by rw[map_nil]at r;cases r;exact⟨[],True.intro,.nil⟩
 |p::aI,_,r=>by
  rw[map_cons]at r;cases r with
  |@cons a b T bs h t=>
   obtain⟨G,c,q⟩:=j4 (P:=P) (w:=w) t;obtain⟨b1,b2⟩:=b;exact⟨(p.1,b2)::G,⟨rA h.1,rfl,c⟩,.cons ⟨rfl,h.2⟩ q⟩
def we (G:List (TE×TE)):TE:=λσ H Q=>∀p ob,H p=none->l7 G σ (upd H p (.dK [] ob)) λps H2=>H2 p=some (.dK [] ob)/\∃aI:List (dh×V),ps=aI.map (λO=>(kV O.1,O.2))/\aI.length<=15/\∀M,Q (.ref p) (upd H2 p (.dK (g6 [] aI) M))
def up (h:zU X pos keys values trs)(G:keys.all (·.isSome)=true)(hl:keys.length=values.length)(h0:keys≠[])
  (T:keys.length<=15):PE X (.Dict keys values pos) (we trs):=by
 intro ac s σ H Q I q;have hn:=I.hok.fresh (vT s.heap.objs.size);have I1:=I.laid (a:=s.heap.objs.size) (o:=.dK [] { cls:=.type "dict",data:=.dict #[] }) (h':=s.heap.push { cls:=.type "dict",data:=.dict #[] }) (t':=s.toks) (λ_ _ q=>vZ _ q) (vT _) (rE s.heap I.big);refine wpAny_Dict_walk (knd:=cj X.prog X.w) G hl h0 T (bV (h ac _ σ _ _ I1 (q _ _ hn)) λws s2 ⟨ps,H2,I2,U,e,aI,ep,lk,q2⟩=>?_);subst ep;obtain⟨rs,c,rk⟩:=j4 (P:=X.prog) (w:=X.w) U;obtain⟨z,hd,F5,r0,dd⟩:=zS I2.hok e;cases r0
 refine⟨rs,c,dd,λh' M hs=>?_⟩;have hz:(g6 [] aI).length<=sizeLine:=by
  have h1:=gx aI [];rw[List.length_nil]at h1;rw[sizeLine_eq];omega
 obtain⟨O,hq⟩:∃q,h'.get? s.heap.objs.size=some q:=let ⟨q,_,_,hq,_⟩:=M;⟨q,hq⟩;exact⟨.ref s.heap.objs.size,_,um I2 (by rw[e];exact True.intro) hs ⟨O,hq⟩ (xw hz hd (rk.merge .nil) M hq),rfl,q2 O⟩
structure M2 (X:Cx)(o:Expr)(m:Str)(dQ:Pos)(e f:Expr)(cz:Pos):Prop where
 base:attributeBase o m X.env (eval o X.env)=eval o X.env
 few:((backTo cz (starEach [e,f] X.env)).all (λx=>!x.1) && (backToKw cz (keywordEach [] X.env)).all (λx=>x.1.isSome)
  && decide (([e,f]:List Expr).length+([]:List Keyword).length+(if([]:List Keyword).isEmpty then 0 else 1)<30))=true
 line:(dQ.endLine == cz.line)=true
 trees:backTo cz (starEach [e,f] X.env)=[(false,eval e X.env),(false,eval f X.env)]
def Dl (H:Hp)(a:Addr):Prop:=(∃aI ob,Rd H a (.dK aI ob))∨∃aI,Rd H a (.dT aI)
def xx (I:Inv X ac σ H s)(d:Dl H a):
  s.TypeIs (.ref a) "dict"/\(∀b,Value.ref a=.ref b->∃ob,s.heap.get? b=some ob/\ob.dict=none)/\(a == sysModules)=false:=by
 rcases d with⟨aI,M,e⟩|⟨aI,e⟩
 ·obtain⟨_,hd,vs,_,G⟩:=rB I.hok e;refine⟨G.typeIs,λb q=>?_,hd⟩;cases q
  obtain⟨ob,_,_,h1,h2,_⟩:=G;exact⟨ob,h1,h2.2.1⟩
 ·obtain⟨_,hd,xs,_,G⟩:=wd I.hok e;refine⟨G.typeIs,λb q=>?_,hd⟩;cases q
  obtain⟨ob,_,_,h1,h2,_⟩:=G;exact⟨ob,h1,h2.2.1⟩
section
variable {X:Cx}{ac:AO}{σ:St}{H:Hp}{s:Shared}{a:Addr}{y d:V}{u r:Value}{o:Option V}{A:Around}{E:QV}
def xy (hu:A.units+1<cLine)(I:Inv X ac σ H s)(g:ul H a y o)(T:aT y u)(U:aT d r)(h:∀w' s',Inv X ac σ H s'->aT (o.getD d) w'->Q w' s'):
  wpAny (model X.prog X.w) A (call (.builtin "dict.get") [.ref a,u,r]) Q E s:=by
 rcases g with⟨aI,k,ob,e,O,l⟩|⟨aI,k,b,e,O,eb,l⟩
 ·subst O;obtain⟨z,hd,vs,G,M⟩:=rB I.hok e;refine call_meetsIn PySem.F.slot_dict_get M.typeIs PySem.F.entry_dict_get (PySem.F.args_dict_get_3 _ _ _) (meets_dict_get_default (cj X.prog X.w) a (rA T) hd r) ⟨_,M.mapOf,h _ _ (I.tok _) ?_⟩;rw[l];exact(G.val k).getD U
 ·subst O;cases (show u=Value.ref b from T)
  obtain⟨z,hd,xs,G,M⟩:=wd I.hok e;refine call_meetsIn PySem.F.slot_dict_get M.typeIs PySem.F.entry_dict_get (PySem.F.args_dict_get_3 _ _ _) (meetsH_dict_get_default (tupleKind (cj X.prog X.w)) a b hd r) ⟨tupleKind_room_in1 hu,k,xs,rC I.hok eb,M,h _ _ (I.tok _) ?_⟩;rw[l];exact(G.val k).getD U
end
def xz (O ty T:TE):TE:=λσ H Q=>O σ H λx G=>∃a,x=.ref a/\Dl G a/\ty σ G λy H2=>T σ H2 λz M=>∃o,ul M a y o/\Q (o.getD z) M
section
variable {X:Cx}{o e f:Expr}{dQ cz:Pos}{td ty tx:TE}
def rG (hu:X.A.units+1<cLine)(O:PE X o td)(he:PE X e ty)(T:PE X f tx)(m:M2 X o "get" dQ e f cz):PE X (.Call (.Attribute o "get" dQ) [e,f] [] cz) (xz td ty tx):=by
 intro ac s σ H Q I h;refine wpAny_Call_method m.base m.few m.line PySem.F.plainAttrs_dict PySem.F.slot_dict_get PySem.F.type_dict_get (bV (O ac s σ H _ I h) λu s1 ⟨x,U,M,rx,a,ex,d,q1⟩=>?_);subst ex;obtain rfl:u=Value.ref a:=rx;obtain⟨t1,t2,_⟩:=xx M d;refine⟨t1,t2,?_⟩;rw[m.trees];refine Calls.callWith_builtin rfl (Calls.evalArgs_plain (Calls.spliced_cons (bV (he ac s1 σ U _ M q1) λiv s2 ⟨y,H2,I2,ry,q2⟩=>
  Calls.spliced_cons (bV (T ac s2 σ H2 _ I2 q2) λfv s3 ⟨z,H3,I3,rz,ov,g,q3⟩=>Calls.spliced_nil ?_))))
 exact xy hu I3 g ry rz λw' s4 I4 G=>⟨_,H3,I4,G,q3⟩
end
end L2
namespace DL
open PySem L2
set_option linter.all false
abbrev St:=L2.St
inductive D where
 |non|bl (b:Bool)|int (i:Int)|str (x:Str)|ty (n:String)|tup (ds:List D)|lst (ds:List D)
  |dk (ks:List dh) (vs:List D)|dt (ks:List (List dh)) (vs:List D)
abbrev LD:=List D
abbrev LV:=List V
abbrev LK:=List dh
abbrev OB:=Option (D×Bool)
mutual
inductive Is (K:Frag)(H:Hp):V->D->Prop where
 |non:Is K H .non .non
 |bl (b:Bool):Is K H (.bl b) (.bl b)
 |int (i:Int):Is K H (.int i) (.int i)
 |str (x:Str):Is K H (.str x) (.str x)
 |ty (n:String):Is K H (.ty n) (.ty n)
 |tup {a:Addr}{vs:List V}{ds:List D}(h:eS K H a vs) (hs:IsL K H vs ds):Is K H (.ref a) (.tup ds)
 |lst {a:Addr}{vs:List V}{ds:List D}(h:fz K H a vs) (hs:IsL K H vs ds):Is K H (.ref a) (.lst ds)
 |dk {a:Addr}{ks:List dh}{vs:List V}{ds:List D}{ob:Obj}(h:H a=some (.dK (ks.zip vs) ob)) (hl:ks.length=vs.length) (hs:IsL K H vs ds):Is K H (.ref a) (.dk ks ds)
 |dt {a:Addr}{ks:List (List dh)}{vs:List V}{ds:List D}(h:H a=some (.dT (ks.zip vs))) (hl:ks.length=vs.length) (hs:IsL K H vs ds):Is K H (.ref a) (.dt ks ds)
inductive IsL (K:Frag)(H:Hp):List V->List D->Prop where
 |nil:IsL K H [] []
 |cons {v:V}{d:D}{vs:List V}{ds:List D}(h:Is K H v d) (hs:IsL K H vs ds):IsL K H (v::vs) (d::ds)
end
mutual
def b8:D->Bool
 |.lst _=>false
 |.dk _ _=>false
 |.dt _ _=>false
 |.tup ds=>cc ds
 |_=>true
def cc:LD->Bool
 |[]=>true
 |d::ds=>b8 d && cc ds
end
@[simp] def yS:b8 .non=true:=by simp only[b8]
@[simp] def zV (b:Bool):b8 (.bl b)=true:=by simp only[b8]
@[simp] def yT (i:Int):b8 (.int i)=true:=by simp only[b8]
@[simp] def yU (x:Str):b8 (.str x)=true:=by simp only[b8]
@[simp] def zW (x:String):b8 (.ty x)=true:=by simp only[b8]
@[simp] def ip (ds:LD):b8 (.tup ds)=cc ds:=by rw[b8]
@[simp] def yV (ds:LD):b8 (.lst ds)=false:=by rw[b8]
@[simp] def zX (ks:LK)(ds:LD):b8 (.dk ks ds)=false:=by rw[b8]
@[simp] def zY (ks:List LK)(ds:LD):b8 (.dt ks ds)=false:=by rw[b8]
@[simp] def xA:cc []=true:=by rw[cc]
@[simp] def mh (d:D)(ds:LD):cc (d::ds)=(b8 d && cc ds):=by rw[cc]
section
variable {K:Frag}{H H':Hp}
mutual
theorem Is.keep (G:∀a vs,eS K H a vs->eS K H' a vs)(M:∀a vs,fz K H a vs->fz K H' a vs)(O:∀a aI ob,H a=some (.dK aI ob)->H' a=some (.dK aI ob))(T:∀a aI,H a=some (.dT aI)->H' a=some (.dT aI)):∀ {v:V}{d:D},Is K H v d->Is K H' v d
 |_,_,.non=>.non
 |_,_,.bl b=>.bl b
 |_,_,.int i=>.int i
 |_,_,.str x=>.str x
 |_,_,.ty x=>.ty x
 |_,_,.tup h hs=>.tup (G _ _ h) (IsL.keep G M O T hs)
 |_,_,.lst h hs=>.lst (M _ _ h) (IsL.keep G M O T hs)
 |_,_,.dk h hl hs=>.dk (O _ _ _ h) hl (IsL.keep G M O T hs)
 |_,_,.dt h hl hs=>.dt (T _ _ h) hl (IsL.keep G M O T hs)
theorem IsL.keep (G:∀a vs,eS K H a vs->eS K H' a vs)(M:∀a vs,fz K H a vs->fz K H' a vs)(O:∀a aI ob,H a=some (.dK aI ob)->H' a=some (.dK aI ob))(T:∀a aI,H a=some (.dT aI)->H' a=some (.dT aI)):∀ {vs:LV}{ds:LD},IsL K H vs ds->IsL K H' vs ds
 |_,_,.nil=>.nil
 |_,_,.cons h hs=>.cons (Is.keep G M O T h) (IsL.keep G M O T hs)
end
mutual
theorem Is.keepT (G:∀a vs,eS K H a vs->eS K H' a vs):∀ {v:V}{d:D},Is K H v d->b8 d=true->Is K H' v d
 |_,_,.non,_=>.non
 |_,_,.bl b,_=>.bl b
 |_,_,.int i,_=>.int i
 |_,_,.str x,_=>.str x
 |_,_,.ty x,_=>.ty x
 |_,_,.tup h hs,n=>.tup (G _ _ h) (IsL.keepT G hs (by simpa using n))
 |_,_,.lst h hs,n=>by simp at n
 |_,_,.dk h hl hs,n=>by simp at n
 |_,_,.dt h hl hs,n=>by simp at n
theorem IsL.keepT (G:∀a vs,eS K H a vs->eS K H' a vs):∀ {vs:LV}{ds:LD},IsL K H vs ds->cc ds=true->IsL K H' vs ds
 |_,_,.nil,_=>.nil
 |_,_,.cons h hs,n=>by
  simp at n;exact .cons (Is.keepT G h n.1) (IsL.keepT G hs n.2)
end
def bf (e:aQ H H')(h:eS K H a xs):eS K H' a xs:=by
 rcases h with (h|⟨o,h⟩)|h
 ·exact .inl (.inl (e _ _ h))
 ·exact .inl (.inr ⟨o,e _ _ h⟩)
 ·exact .inr h
def Is.mono (h:Is K H v d)(e:aQ H H'):Is K H' v d:=h.keep (λ_ _=>bf e) (λ_ _=>e.seq) (λ_ _ _ q=>e _ _ q) λ_ _ q=>e _ _ q
def IsL.mono (h:IsL K H v d)(e:aQ H H'):IsL K H' v d:=h.keep (λ_ _=>bf e) (λ_ _=>e.seq) (λ_ _ _ q=>e _ _ q) λ_ _ q=>e _ _ q
theorem IsL.length:∀ {vs:LV}{ds:LD},IsL K H vs ds->vs.length=ds.length
 |_,_,.nil=>rfl
 |_,_,.cons _ t=>congrArg (· + 1) t.length
theorem IsL.get:∀ {vs:LV}{ds:LD}{i:Nat}{d:D},IsL K H vs ds->ds[i]? = some d->∃v,vs[i]? = some v/\Is K H v d
 |_,_,_,_,.nil,e=>by simp at e
 |_,_,0,_,.cons h _,e=>by simp at e;subst e;exact⟨_,rfl,h⟩
 |_,_,i+1,d,.cons _ t,e=>by
  obtain⟨u,h1,h2⟩:=t.get (i:=i) (d:=d) (by simpa using e);exact⟨u,by simpa using h1,h2⟩
theorem IsL.append:∀ {vs G:LV}{ds es:LD},IsL K H vs ds->IsL K H G es->IsL K H (vs++G) (ds++es)
 |_,_,_,_,.nil,s=>s
 |_,_,_,_,.cons r t,s=>.cons r (t.append s)
theorem IsL.take:∀ {vs:LV}{ds:LD}(n:Nat),IsL K H vs ds->IsL K H (vs.take n) (ds.take n)
 |_,_,0,_=>by simpa using IsL.nil
 |_,_,_+1,.nil=>.nil
 |_,_,n+1,.cons r t=>.cons r (t.take n)
theorem IsL.drop:∀ {vs:LV}{ds:LD}(n:Nat),IsL K H vs ds->IsL K H (vs.drop n) (ds.drop n)
 |_,_,0,r=>r
 |_,_,_+1,.nil=>.nil
 |_,_,n+1,.cons _ t=>t.drop n
theorem IsL.set (h:Is K H v d):∀ {vs:LV}{ds:LD}(i:Nat),IsL K H vs ds->IsL K H (vs.set i v) (ds.set i d)
 |_,_,_,.nil=>.nil
 |_,_,0,.cons _ t=>.cons h t
 |_,_,i+1,.cons r t=>.cons r (IsL.set h i t)
def IsL.flat {vs:LV}{ns:LI}(h:vs=ns.map V.int):IsL K H vs (ns.map D.int):=by
 subst h;induction ns with
 |nil=>exact .nil
 |cons n ns G=>exact .cons (.int n) G
end
structure Ext (B N H H':Hp):Prop where
 hh:aQ H H'
 bn:aQ B N
 nh:aQ N H'
 new:∀a o,N a=some o->B a=some o∨H a=none
def Ext.refl (h:aQ B H):Ext B B H H:=⟨.refl _,.refl _,h,λ_ _ e=>.inl e⟩
def Ext.trans (x:Ext B N H H1)(y:Ext N N2 H1 H2):Ext B N2 H H2 :=
 ⟨x.hh.trans y.hh,x.bn.trans y.bn,y.nh,λa o e=>(y.new a o e).elim (λq=>x.new a o q) λq=>.inr (x.hh.free q)⟩
def Ext.laid (h:aQ B H)(hp:H p=none):Ext B (upd B p o) H (upd H p o):=by
 have G:B p=none:=h.free hp;refine⟨λa u e=>?_,λa u e=>?_,λa u e=>?_,λa u e=>?_⟩
 ·rw[aK (λq=>by subst q;rw[hp]at e;cases e)];exact e
 ·rw[aK (λq=>by subst q;rw[G]at e;cases e)];exact e
 ·by_cases q:a=p
  ·subst q;rw[aM]at e ⊢;exact e
  ·rw[aK q]at e ⊢;exact h _ _ e
 ·by_cases q:a=p
  ·subst q;exact .inr hp
  ·rw[aK q]at e;exact .inl e
def Ext.grow (h:aQ B H)(hh:aQ H H'):Ext B B H H':=⟨hh,.refl _,h.trans hh,λ_ _ e=>.inl e⟩
abbrev Env:=List OB
abbrev FE:=Env->OB
abbrev FA:=Env->Option LD
abbrev FT:=Env->Option Bool
def yW (K:Frag)(H N:Hp)(v:V):D->Prop
 |.tup ds=>∃(a:Addr)(vs:LV),v=.ref a/\eS K N a vs/\IsL K N vs ds/\∀(i:Nat)(es:LD),ds[i]? = some (.lst es)->∃(b:Addr)(us:LV),vs[i]? = some (.ref b)/\H b=none/\N b=some (.lst us)/\IsL K N us es
 |d=>∃(a:Addr)(vs:LV)(ds:LD),v=.ref a/\d=.lst ds/\H a=none/\N a=some (.lst vs)/\IsL K N vs ds
def yW.back (h:yW K H' N v d)(e:aQ H H'):yW K H N v d:=by
 cases d
 case tup=>exact let ⟨a,vs,q,y,z,r⟩:=h;⟨a,vs,q,y,z,λi es g=>let ⟨b,us,G,M,O⟩:=r i es g;⟨b,us,G,e.free M,O⟩⟩
 all_goals exact let ⟨a,vs,ds,q,y,z,r⟩:=h;⟨a,vs,ds,q,y,e.free z,r⟩
noncomputable def mi:LS:=["in_order","has_seal","is_first_death","bases_by"]
def xB (x:Str):Str:=x ++ ".<locals>." ++ "<lambda>"
def Tb (K:Frag)(B:Hp):Prop:=∀x∈mi,∀c P,PySem.W.tabIn K x=some (c,P)->B P=some (.tbl (xB x))
def Tb.mono (h:Tb K B)(e:aQ B B'):Tb K B':=λx hx c P q=>e _ _ (h x hx c P q)
structure di (K:Frag)(B:Hp)(σ:St)(ρ:Env):Prop where
 tb:Tb K B
 at':∀(i:Nat)(d:D)(b:Bool),ρ[i]? = some (some (d,b))->∃v,σ[i]? = some (some v)/\Is K B v d
def di.mono (h:di K B σ ρ)(e:aQ B B'):di K B' σ ρ:=⟨h.tb.mono e,λi d b q=>let ⟨v,h1,h2⟩:=h.at' i d b q;⟨v,h1,h2.mono e⟩⟩
def Fin (K:Frag)(B H:Hp)(d:D)(b:Bool)(Q:VK):Prop:=∀(v:V)(H' N:Hp),Ext B N H H'->Is K N v d->(b=true->yW K H N v d)->Q v H'
def tD (K:Frag)(f:FE):TE:=λσ H Q=>∃(B:Hp)(ρ:Env)(d:D)(b:Bool),aQ B H/\di K B σ ρ/\f ρ=some (d,b)/\Fin K B H d b Q
def qw (K:Frag)(f:FT):TT:=λσ H Q=>∃(B:Hp)(ρ:Env)(c:Bool),aQ B H/\di K B σ ρ/\f ρ=some c/\∀H',aQ H H'->Q c H'
def zZ (K:Frag)(f:FA):TA:=λσ H Q=>∃(B:Hp)(ρ:Env)(ds:LD),aQ B H/\di K B σ ρ/\f ρ=some ds/\∀(vs:LV)(H' N:Hp),Ext B N H H'->IsL K N vs ds->Q vs H'
def rD (K:Frag)(M:D->D->OB):R2:=λx y H Q=>∃(B:Hp)(dx G d:D)(b:Bool),aQ B H/\Is K B x dx/\Is K B y G/\M dx G=some (d,b)/\Fin K B H d b Q
def BZ (K:Frag)(G:D->OB):V->Hp->VK->Prop:=λx H Q=>∃(B:Hp)(dx d:D)(b:Bool),aQ B H/\Is K B x dx/\G dx=some (d,b)/\Fin K B H d b Q
def tM (K:Frag)(G:LD->OB):LV->Hp->VK->Prop:=λxs H Q=>∃(B:Hp)(ds:LD)(d:D)(b:Bool),aQ B H/\IsL K B xs ds/\G ds=some (d,b)/\Fin K B H d b Q
def Fin.one (h:Fin K B H d false Q)(s:aQ B H)(i:Is K B v d):Q v H:=h v H B (.refl s) i (by simp)
def Fin.into (h:Fin K B H d b Q)(x:Ext B N H H1):Fin K N H1 d b Q:=λv H' N' y i G=>h v H' N' (x.trans y) i λe=>(G e).back x.hh
@[simp] def fC (d:D):FE:=λ_=>some (d,false)
@[simp] noncomputable def ak (i:Nat):FE:=λρ=>match ρ[i]? with|some (some (d,_))=>some (d,false)|_=>none
@[simp] noncomputable def f2 (G:D->D->OB)(M O:FE):FE:=λρ=>(M ρ).bind λx=>(O ρ).bind λy=>G x.1 y.1
@[simp] noncomputable def f1 (G:D->OB)(M:FE):FE:=λρ=>(M ρ).bind λx=>G x.1
@[simp] def ag:FA:=λ_=>some []
@[simp] noncomputable def aa (G:FE)(M:FA):FA:=λρ=>(G ρ).bind λx=>(M ρ).bind λxs=>some (x.1::xs)
@[simp] def fA (G:LD->OB)(M:FA):FE:=λρ=>(M ρ).bind G
def xC (h:tD K (ak i) σ H Q):∃v,σ[i]? = some (some v)/\Q v H:=by
 obtain⟨B,ρ,d,b,s,r,e,q⟩:=h;unfold ak at e;split at e
 ·rename_i d' M G;cases e
  obtain⟨v,h1,h2⟩:=r.at' i _ _ G;exact⟨v,h1,q.one s h2⟩
 ·cases e
def uq (h:tD K (f2 op fa fb) σ H Q):tD K fa σ H λx O=>tD K fb σ O λy H2=>rD K op x y H2 Q:=by
 obtain⟨B,ρ,d,b,s,r,e,q⟩:=h;obtain⟨x,ex,e⟩:=oX e;obtain⟨y,T,e⟩:=oX e;refine⟨B,ρ,x.1,x.2,s,r,ex,λv O N G i1 _=>⟨N,ρ,y.1,y.2,G.nh,r.mono G.bn,T,λv2 H2 U M i2 _=>⟨U,x.1,y.1,d,b,M.nh,i1.mono M.bn,i2,e,?_⟩⟩⟩;exact q.into (G.trans M)
def Ca (h:tD K (f1 op fa) σ H Q):tD K fa σ H λx G=>BZ K op x G Q:=by
 obtain⟨B,ρ,d,b,s,r,e,q⟩:=h;obtain⟨x,ex,e⟩:=oX e;exact⟨B,ρ,x.1,x.2,s,r,ex,λv G N M i1 _=>⟨N,x.1,d,b,M.nh,i1,e,q.into M⟩⟩
def ur (h:tD K (fA op fa) σ H Q):zZ K fa σ H λxs G=>tM K op xs G Q:=by
 obtain⟨B,ρ,d,b,s,r,e,q⟩:=h;obtain⟨x,ex,e⟩:=oX e;exact⟨B,ρ,x,s,r,ex,λv G N M i1=>⟨N,x,d,b,M.nh,i1,e,q.into M⟩⟩
def ut (h:zZ K ag σ H Q):Q [] H:=by
 obtain⟨B,ρ,ds,s,r,e,q⟩:=h;cases e
 exact q [] H B (.refl s) .nil
def rH (h:zZ K (aa fa fr) σ H Q):tD K fa σ H λx M=>zZ K fr σ M λxs H2=>Q (x::xs) H2:=by
 obtain⟨B,ρ,ds,s,r,e,q⟩:=h;obtain⟨x,ex,e⟩:=oX e;obtain⟨y,T,e⟩:=oX e;cases e
 exact⟨B,ρ,x.1,x.2,s,r,ex,λv M N G i1 _=>⟨N,ρ,y,G.nh,r.mono G.bn,T,λvs H2 U O i2=>q _ H2 U (G.trans O) (.cons (i1.mono O.bn) i2)⟩⟩
@[simp] noncomputable def aO (f:FE):FT:=λρ=>match f ρ with|some (.bl c,_)=>some c|_=>none
@[simp] noncomputable def gR (f g:FT):FT:=λρ=>match f ρ with|some true=>g ρ|some false=>some false|none=>none
@[simp] noncomputable def b7 (f g:FT):FT:=λρ=>match f ρ with|some true=>some true|some false=>g ρ|none=>none
@[simp] def aN (f:FT):FT:=λρ=>(f ρ).map (!·)
open Classical in
noncomputable def cA (H:Hp)(P:Addr->Prop):Hp:=λa=>if P a then none else H a
def ce (h:¬P a):cA H P a=H a:=by unfold cA;rw[if_neg h]
def nN (h:P a):cA H P a=none:=by unfold cA;rw[if_pos h]
def fO (h:cA H P a=some o):¬P a/\H a=some o:=by
 by_cases q:P a
 ·rw[nN q]at h;cases h
 ·rw[ce q]at h;exact⟨q,h⟩
def bi:aQ (cA H P) H:=λ_ _ e=>(fO e).2
def dB (e:∀a o,H a=some o->¬P a->H' a=some o/\¬P' a):aQ (cA H P) (cA H' P'):=λa o q=>by
 obtain⟨h1,h2⟩:=fO q;obtain⟨h3,h4⟩:=e a o h2 h1;rw[ce h4];exact h3
noncomputable def join (N N':Hp):Hp:=λa=>match N a with|some o=>some o|none=>N' a
def cC:aQ N (join N N'):=λa o e=>by unfold join;rw[e]
def cG (e:N a=none):join N N' a=N' a:=by unfold join;rw[e]
def own (σ:St)(ρ:Env)(a:Addr):Prop:=∃(i:Nat)(d:D),ρ[i]? = some (some (d,true))/\σ[i]? = some (some (V.ref a))
inductive Bx (K:Frag)(C:Hp):HO->D->Prop where
 |lst {vs:List V}{ds:List D}(h:IsL K C vs ds):Bx K C (.lst vs) (.lst ds)
 |dk {ks:List dh}{vs:List V}{ds:List D}(hl:ks.length=vs.length) (h:IsL K C vs ds) {ob:Obj}:Bx K C (.dK (ks.zip vs) ob) (.dk ks ds)
 |dt {ks:List (List dh)}{vs:List V}{ds:List D}(hl:ks.length=vs.length) (h:IsL K C vs ds):Bx K C (.dT (ks.zip vs)) (.dt ks ds)
def Bx.mono (h:Bx K C o d)(e:aQ C C'):Bx K C' o d:=by
 cases h with
 |lst h=>exact .lst (h.mono e)
 |dk hl h=>exact .dk hl (h.mono e)
 |dt hl h=>exact .dt hl (h.mono e)
def Bx.is (h:Bx K C o d)(e:C a=some o):Is K C (.ref a) d:=by
 cases h with
 |lst h=>exact .lst (fz.of e) h
 |dk hl h=>exact .dk e hl h
 |dt hl h=>exact .dt e hl h
structure cN (K:Frag)(B0 H0 N H:Hp)(σ:St)(ρ:Env):Prop where
 bh:aQ B0 H0
 tb:Tb K B0
 ext:Ext B0 N H0 H
 len:ρ.length=σ.length
 sh:∀(i:Nat)(d:D),ρ[i]? = some (some (d,false))->∃v,σ[i]? = some (some v)/\Is K (cA N (own σ ρ)) v d
 ow:∀(i:Nat)(d:D),ρ[i]? = some (some (d,true))->∃(a:Addr)(o:HO),σ[i]? = some (some (V.ref a))/\N a=some o/\H0 a=none/\Bx K (cA N (own σ ρ)) o d
 inj:∀(i j:Nat)(a:Addr)(d e:D),ρ[i]? = some (some (d,true))->ρ[j]? = some (some (e,true))->σ[i]? = some (some (V.ref a))->σ[j]? = some (some (V.ref a))->i=j
def nO (K:Frag)(B0 H0 H:Hp)(σ:St)(ρ:Env):Prop:=∃N,cN K B0 H0 N H σ ρ
section
variable {K:Frag}{B0 H0 N H H':Hp}{σ:St}{ρ:Env}
def cN.owL (s:cN K B0 H0 N H σ ρ)(i:Nat)(d:D)(q:ρ[i]? = some (some (.lst es,true)))(hd:d=.lst es:=by rfl):∃(a:Addr)(vs:LV)(ds:LD),d=.lst ds/\σ[i]? = some (some (V.ref a))/\N a=some (.lst vs)/\H0 a=none/\IsL K (cA N (own σ ρ)) vs ds:=by
 obtain⟨a,o,h1,h2,h3,h4⟩:=s.ow i _ q;cases h4 with
 |lst h4=>exact⟨a,_,es,hd,h1,h2,h3,h4⟩
def boxed:HO->Prop
 |.lst _|.dK _ _|.dT _=>True
 |_=>False
def Bx.boxed (h:Bx K C o d):boxed o:=by cases h<;>exact trivial
def cN.owned (s:cN K B0 H0 N H σ ρ)(h:own σ ρ a):∃o,(N a=some o/\boxed o)/\H0 a=none:=by
 obtain⟨i,d,h1,h2⟩:=h;obtain⟨M,o,h3,h4,h5,G⟩:=s.ow i d h1;rw[h2]at h3;cases h3;exact⟨o,⟨h4,G.boxed⟩,h5⟩
def cN.rep (s:cN K B0 H0 N H σ ρ):di K N σ ρ:=⟨s.tb.mono s.ext.bn,λi d b q=>by
 cases b with
 |false=>obtain⟨v,h1,h2⟩:=s.sh i d q;exact⟨v,h1,h2.mono bi⟩
 |true=>
  obtain⟨a,o,h2,h3,_,h4⟩:=s.ow i d q;exact⟨_,h2,(h4.mono bi).is h3⟩⟩
noncomputable def dI (ρ:Env):Env:=ρ.map λx=>match x with|some (d,false)=>some (d,false)|_=>none
def rJ {i:Nat}{d:D}{b:Bool}(h:(dI ρ)[i]? = some (some (d,b))):b=false/\ρ[i]? = some (some (d,false)):=by
 unfold dI at h;rw[vB]at h;cases e:ρ[i]? with
 |none=>rw[e]at h;cases h
 |some x=>
  rw[e]at h;match x,h with
  |some (d',false),h=>cases h;exact⟨rfl,rfl⟩
  |some (d',true),h=>cases h
  |none,h=>cases h
def cN.tbC (s:cN K B0 H0 N H σ ρ):Tb K (cA N (own σ ρ)):=λx hx c P q=>by
 have z:=s.tb.mono s.ext.bn x hx c P q;rw[ce]
 ·exact z
 ·intro y;obtain⟨o,⟨y,G⟩,_⟩:=s.owned y;rw[z]at y;cases y;exact G
def cN.repH (s:cN K B0 H0 N H σ ρ):di K (cA N (own σ ρ)) σ (dI ρ):=⟨s.tbC,λi d b q=>by
 obtain⟨rfl,G⟩:=rJ q;exact s.sh i d G⟩
def cN.grow (s:cN K B0 H0 N H σ ρ)(x:Ext N N' H H'):cN K B0 H0 N' H' σ ρ:=by
 have c:aQ (cA N (own σ ρ)) (cA N' (own σ ρ)):=dB λa o e q=>⟨x.bn a o e,q⟩;refine⟨s.bh,s.tb,s.ext.trans x,s.len,λi d q=>?_,λi d q=>?_,s.inj⟩
 ·obtain⟨v,h1,h2⟩:=s.sh i d q;exact⟨v,h1,h2.mono c⟩
 ·obtain⟨a,o,h2,h3,h4,h5⟩:=s.ow i d q;exact⟨a,o,h2,x.bn _ _ h3,h4,h5.mono c⟩
def cN.growH (s:cN K B0 H0 N H σ ρ)(x:Ext (cA N (own σ ρ)) N' H H'):cN K B0 H0 (join N N') H' σ ρ/\aQ N' (cA (join N N') (own σ ρ)):=by
 have M:Ext N (join N N') H H':=by
  refine⟨x.hh,cC,λa o e=>?_,λa o e=>?_⟩
  ·cases q:N a with
   |some u=>
    have:join N N' a=some u:=cC _ _ q;rw[this]at e;cases e;exact x.hh _ _ (s.ext.nh _ _ q)
   |none=>rw[cG q]at e;exact x.nh _ _ e
  ·cases q:N a with
   |some u=>
    have:join N N' a=some u:=cC _ _ q;rw[this]at e;cases e;exact .inl rfl
   |none=>
    rw[cG q]at e;rcases x.new a o e with z|z
    ·have:=bi _ _ z;rw[q]at this;cases this
    ·exact .inr z
 refine⟨s.grow M,λa o e=>?_⟩;rcases x.new a o e with z|z
 ·obtain⟨O,T⟩:=fO z;rw[ce O];exact cC _ _ T
 ·have G:N a=none:=s.ext.nh.free z;have:¬own σ ρ a:=λq=>by obtain⟨vs,⟨q,_⟩,_⟩:=s.owned q;rw[G]at q;cases q
  rw[ce this,cG G];exact e
def unown (ρ:Env):Env:=ρ.map λx=>x.map λy=>(y.1,false)
def gk {i:Nat}{d:D}{b:Bool}(h:(unown ρ)[i]? = some (some (d,b))):b=false/\∃c,ρ[i]? = some (some (d,c)):=by
 unfold unown at h;rw[vB]at h;cases e:ρ[i]? with
 |none=>rw[e]at h;cases h
 |some x=>
  rw[e]at h;match x,h with
  |some (d',c),h=>cases h;exact⟨rfl,c,rfl⟩
  |none,h=>cases h
def iq {a:Addr}:¬own σ (unown ρ) a:=λ⟨i,d,h,_⟩=>by
 obtain⟨z,_⟩:=gk h;cases z
def cN.unown (s:cN K B0 H0 N H σ ρ):cN K B0 H0 N H σ (unown ρ):=by
 refine⟨s.bh,s.tb,s.ext,by unfold DL.unown;rw[vI];exact s.len,λi d q=>?_,λi d q=>?_,λi j a d e q=>?_⟩
 ·obtain⟨_,c,q⟩:=gk q;obtain⟨v,h1,h2⟩:=s.rep.at' i d c q;exact⟨v,h1,h2.mono λa o e=>by rw[ce iq];exact e⟩
 ·obtain⟨z,_⟩:=gk q;cases z
 ·obtain⟨z,_⟩:=gk q;cases z
def bB {α:Type}{l:List α}{i j:Nat}{x y:α}(h:(l.set i x)[j]? = some y):(i=j/\x=y)∨(i≠j/\l[j]? = some y):=by
 by_cases e:i=j
 ·subst e;rw[List.getElem?_set]at h;split at h
  ·split at h
   ·exact .inl ⟨rfl,vK h⟩
   ·cases h
  ·contradiction
 ·rw[vC e]at h;exact .inr ⟨e,h⟩
def kD {α G:Type}{l:List α}{m:List G}{i:Nat}{x y:α}(h:(l.set i x)[i]? = some y)(e:l.length=m.length):i<m.length:=by
 obtain⟨h,_⟩:=vV h;rw[length_set]at h;omega
def jq {i:Nat}{v:V}{x:OB}{a:Addr}(h:own (σ.set i (some v)) (ρ.set i x) a):(v=.ref a/\∃d,x=some (d,true))∨∃j,j≠i/\∃d,ρ[j]? = some (some (d,true))/\σ[j]? = some (some (V.ref a)):=by
 obtain⟨j,d,h1,h2⟩:=h;rcases bB h1 with⟨e,q⟩|⟨e,q⟩
 ·rcases bB h2 with⟨G,M⟩|⟨G,M⟩
  ·cases M;exact .inl ⟨rfl,d,q⟩
  ·exact absurd e G
 ·rcases bB h2 with⟨G,M⟩|⟨G,M⟩
  ·exact absurd G e
  ·exact .inr ⟨j,λz=>e z.symm,d,q,M⟩
def cN.bind (s:cN K B0 H0 N H σ ρ){i:Nat}{v:V}{d:D}(h:Is K (cA N (own σ ρ)) v d):cN K B0 H0 N H (σ.set i (some v)) (ρ.set i (some (d,false))):=by
 have o:∀a,own (σ.set i (some v)) (ρ.set i (some (d,false))) a->own σ ρ a:=λa q=>by
  rcases jq q with⟨_,d',p⟩|⟨j,_,d',O,T⟩
  ·cases p
  ·exact⟨j,d',O,T⟩
 have c:aQ (cA N (own σ ρ)) (cA N (own (σ.set i (some v)) (ρ.set i (some (d,false))))):=dB λa u e q=>⟨e,λz=>q (o a z)⟩;refine⟨s.bh,s.tb,s.ext,by simp[s.len],λj e q=>?_,λj e q=>?_,λj k a e f q U h1 h2=>?_⟩
 ·rcases bB q with⟨rfl,p⟩|⟨ne,p⟩
  ·cases p
   have hi:=kD q s.len;exact⟨v,by simp[hi],h.mono c⟩
  ·obtain⟨w,h1,h2⟩:=s.sh j e p;exact⟨w,by rw[vC ne];exact h1,h2.mono c⟩
 ·rcases bB q with⟨rfl,p⟩|⟨ne,p⟩
  ·cases p
  ·obtain⟨a,o,h1,h2,h3,h4⟩:=s.ow j e p;exact⟨a,o,by rw[vC ne];exact h1,h2,h3,h4.mono c⟩
 ·rcases bB q with⟨rfl,p⟩|⟨ne,p⟩
  ·cases p
  ·rcases bB U with⟨rfl,G⟩|⟨M,G⟩
   ·cases G
   ·rw[vC ne]at h1;rw[vC M]at h2;exact s.inj j k a e f p G h1 h2
def cN.bindOwn (s:cN K B0 H0 N H σ ρ){i:Nat}{a:Addr}{ob:HO}{U:D}(hN:N a=some ob)(h0:H0 a=none)(M:∀(j:Nat)(d:D),ρ[j]? = some (some (d,true))->σ[j]? ≠ some (some (V.ref a)))
  (EG:∀(j:Nat)(d:D),j≠i->ρ[j]? = some (some (d,false))->∃v,σ[j]? = some (some v)/\Is K (cA N (λb=>own σ ρ b∨b=a)) v d) (EH:∀(j:Nat)(d:D),j≠i->ρ[j]? = some (some (d,true))->∃(O:Addr)(o:HO),σ[j]? = some (some (V.ref O))/\N O=some o/\Bx K (cA N (λb=>own σ ρ b∨b=a)) o d)
  (CC:Bx K (cA N (λb=>own σ ρ b∨b=a)) ob U):cN K B0 H0 N H (σ.set i (some (.ref a))) (ρ.set i (some (U,true))):=by
 have o:∀b,own (σ.set i (some (V.ref a))) (ρ.set i (some (U,true))) b->own σ ρ b∨b=a:=λb q=>by
  rcases jq q with⟨p,_⟩|⟨j,_,d',q1,q2⟩
  ·cases p;exact .inr rfl
  ·exact .inl ⟨j,d',q1,q2⟩
 have c:aQ (cA N (λb=>own σ ρ b∨b=a)) (cA N (own (σ.set i (some (V.ref a))) (ρ.set i (some (U,true))))):=dB λb u e q=>⟨e,λz=>q (o b z)⟩;refine⟨s.bh,s.tb,s.ext,by simp[s.len],λj e q=>?_,λj e q=>?_,λj k b e f q q' h1 h2=>?_⟩
 ·rcases bB q with⟨rfl,p⟩|⟨ne,p⟩
  ·cases p
  ·obtain⟨w,h1,h2⟩:=EG j e (Ne.symm ne) p;exact⟨w,by rw[vC ne];exact h1,h2.mono c⟩
 ·rcases bB q with⟨rfl,p⟩|⟨ne,p⟩
  ·cases p
   have hi:=kD q s.len;exact⟨a,ob,by simp[hi],hN,h0,CC.mono c⟩
  ·obtain⟨O,o',h1,h2,h4⟩:=EH j e (Ne.symm ne) p;have h3:H0 O=none:=by
    obtain⟨a2,_,k1,_,k3,_⟩:=s.ow j e p;rw[h1]at k1;cases k1;exact k3
   exact⟨O,o',by rw[vC ne];exact h1,h2,h3,h4.mono c⟩
 ·rcases bB q with⟨rfl,p⟩|⟨ne,p⟩
  ·rcases bB q' with⟨rfl,T⟩|⟨G,T⟩
   ·rfl
   ·rw[vC G]at h2;have CG:V.ref a=V.ref b:=by
     rcases bB h1 with⟨_,z⟩|⟨z,_⟩
     ·exact vK z
     ·exact absurd rfl z
    cases CG
    exact absurd h2 (M k f T)
  ·rcases bB q' with⟨rfl,T⟩|⟨G,T⟩
   ·rw[vC ne]at h1;have CH:V.ref a=V.ref b:=by
     rcases bB h2 with⟨_,z⟩|⟨z,_⟩
     ·exact vK z
     ·exact absurd rfl z
    cases CH
    exact absurd h1 (M j e p)
   ·rw[vC ne]at h1;rw[vC G]at h2;exact s.inj j k b e f p T h1 h2
end
inductive Res where
 |nx (ρ:Env)|rt (d:D) (b:Bool)|bk (ρ:Env)|ct (ρ:Env)
abbrev FS:=Env->Option Res
def Aa (K:Frag)(B0 H0:Hp)(E:Ends):Res->Prop
 |.nx ρ=>∀σ H,nO K B0 H0 H σ ρ->E.nx σ H
 |.rt d b=>∀v H N,Ext B0 N H0 H->Is K N v d->(b=true->yW K H0 N v d)->E.rt v H
 |.bk ρ=>∀σ H,nO K B0 H0 H σ ρ->E.bk σ H
 |.ct ρ=>∀σ H,nO K B0 H0 H σ ρ->E.ct σ H
def kE (K:Frag)(g:FS):TS:=λE σ H=>∃(B0 H0:Hp)(ρ:Env)(r:Res),nO K B0 H0 H σ ρ/\g ρ=some r/\Aa K B0 H0 E r
section
variable {K:Frag}{B0 H0 N H H':Hp}{σ:St}{ρ:Env}{E:Ends}
def cN.writeB (s:cN K B0 H0 N H σ ρ)(hi:ρ[i]? = some (some (d,true)))(G:σ[i]? = some (some (V.ref a)))(h:Bx K (cA N (own σ ρ)) ob dd):
  cN K B0 H0 (upd N a ob) (upd H a ob) σ (ρ.set i (some (dd,true))):=by
 have oa:own σ ρ a:=⟨i,d,hi,G⟩;obtain⟨ws,hw,h0⟩:=s.owned oa;have b0:B0 a=none:=s.bh.free h0;have o:∀b,own σ (ρ.set i (some (dd,true))) b↔own σ ρ b:=λb=>by
  constructor
  ·rintro⟨j,e,O,M⟩;rcases bB O with⟨rfl,p⟩|⟨_,p⟩
   ·exact⟨i,d,hi,M⟩
   ·exact⟨j,e,p,M⟩
  ·rintro⟨j,e,O,M⟩;by_cases z:i=j
   ·subst z;exact⟨i,dd,by rw[List.getElem?_set_self (vV hi).1],M⟩
   ·exact⟨j,e,by rw[vC z];exact O,M⟩
 have c:aQ (cA N (own σ ρ)) (cA (upd N a ob) (own σ (ρ.set i (some (dd,true))))):=dB λb u e q=>by
  have ne:b≠a:=λz=>q (z ▸ oa);exact⟨by rw[aK ne];exact e,λz=>q ((o b).mp z)⟩
 refine⟨s.bh,s.tb,⟨λb u e=>?_,λb u e=>?_,λb u e=>?_,λb u e=>?_⟩,by rw[length_set];exact s.len,λj e q=>?_,λj e q=>?_,λj k b e f q q' h1 h2=>?_⟩
 ·rw[aK (λz=>by subst z;rw[h0]at e;cases e)];exact s.ext.hh _ _ e
 ·rw[aK (λz=>by subst z;rw[b0]at e;cases e)];exact s.ext.bn _ _ e
 ·by_cases z:b=a
  ·subst z;rw[aM]at e ⊢;exact e
  ·rw[aK z]at e ⊢;exact s.ext.nh _ _ e
 ·by_cases z:b=a
  ·subst z;exact .inr h0
  ·rw[aK z]at e;exact s.ext.new _ _ e
 ·rcases bB q with⟨rfl,p⟩|⟨ne,p⟩
  ·cases p
  ·obtain⟨v,h1,h2⟩:=s.sh j e p;exact⟨v,h1,h2.mono c⟩
 ·rcases bB q with⟨rfl,p⟩|⟨ne,p⟩
  ·cases p
   exact⟨a,ob,G,aM,h0,h.mono c⟩
  ·obtain⟨U,o',h1,h2,h3,h4⟩:=s.ow j e p;have na:U≠a:=λz=>by subst z;exact ne (s.inj i j _ d e hi p G h1)
   exact⟨U,o',h1,by rw[aK na];exact h2,h3,h4.mono c⟩
 ·have get:∀ {j:Nat}{e:D},(ρ.set i (some (dd,true)))[j]? = some (some (e,true))->∃T,ρ[j]? = some (some (T,true)):=λ{j e} q=>by
   rcases bB q with⟨rfl,p⟩|⟨ne,p⟩
   ·exact⟨d,hi⟩
   ·exact⟨e,p⟩
  obtain⟨T,O⟩:=get q;obtain⟨f',M⟩:=get q';exact s.inj j k b T f' O M h1 h2
def cN.write (s:cN K B0 H0 N H σ ρ)(hi:ρ[i]? = some (some (d,true)))(G:σ[i]? = some (some (V.ref a)))(h:IsL K (cA N (own σ ρ)) vs ds):
  cN K B0 H0 (upd N a (.lst vs)) (upd H a (.lst vs)) σ (ρ.set i (some (.lst ds,true))):=s.writeB hi G (.lst h)
def cN.tups (s:cN K B0 H0 N H σ ρ):∀a vs,eS K N a vs->eS K (cA N (own σ ρ)) a vs:=λa vs h=>by
 have G:∀u,N a=some u->¬boxed u->cA N (own σ ρ) a=some u:=λu e hu=>by
  rw[ce λz=>?_];exact e;obtain⟨O,⟨q,M⟩,_⟩:=s.owned z;rw[e]at q;cases q;exact hu M
 rcases h with (h|⟨o,h⟩)|h
 ·exact .inl (.inl (G _ h (λq=>q)))
 ·exact .inl (.inr ⟨o,G _ h (λq=>q)⟩)
 ·exact .inr h
def cN.flat (s:cN K B0 H0 N H σ ρ)(h:Is K N v d)(n:b8 d=true):Is K (cA N (own σ ρ)) v d:=h.keepT s.tups n
def cN.flats (s:cN K B0 H0 N H σ ρ)(h:IsL K N v d)(n:cc d=true):IsL K (cA N (own σ ρ)) v d:=h.keepT s.tups n
def cN.rebase (s:cN K B0 H0 N H σ ρ):cN K (cA N (own σ ρ)) (cA H (own σ ρ)) N H σ ρ :=
 ⟨dB λa o e q=>⟨s.ext.nh _ _ e,q⟩,s.tbC,⟨bi,bi,s.ext.nh,λa o e=>by
  by_cases q:own σ ρ a
  ·exact .inr (nN q)
  ·exact .inl (by rw[ce q];exact e)⟩,s.len,s.sh,λi d q=>by
   obtain⟨a,o,h1,h2,_,h4⟩:=s.ow i d q;exact⟨a,o,h1,h2,nN ⟨i,d,q,h1⟩,h4⟩,s.inj⟩
def cN.unbase (s:cN K B0 H0 N H σ ρ)(t:cN K (cA N (own σ ρ)) (cA H (own σ ρ)) N' H' σ' ρ'):cN K B0 H0 N' H' σ' ρ':=by
 have h0:aQ H0 (cA H (own σ ρ)):=λa o e=>by
  rw[ce λz=>?_];exact s.ext.hh _ _ e;obtain⟨_,_,q⟩:=s.owned z;rw[q]at e;cases e
 have G:aQ B0 (cA N (own σ ρ)):=λa o e=>by
  rw[ce λz=>?_];exact s.ext.bn _ _ e;obtain⟨_,_,q⟩:=s.owned z;rw[s.bh _ _ e]at q;cases q
 refine⟨s.bh,s.tb,⟨h0.trans t.ext.hh,G.trans t.ext.bn,t.ext.nh,λa o e=>?_⟩,t.len,t.sh,λi d q=>?_,t.inj⟩
 ·rcases t.ext.new a o e with z|z
  ·exact s.ext.new a o (bi _ _ z)
  ·exact .inr (h0.free z)
 ·obtain⟨a,o,h1,h2,h3,h4⟩:=t.ow i d q;exact⟨a,o,h1,h2,h0.free h3,h4⟩
def cN.based (t:cN K B0 H0 N H σ ρ):aQ B0 (cA N (own σ ρ)):=λa o e=>by
 rw[ce λz=>?_];exact t.ext.bn _ _ e;obtain⟨_,_,q⟩:=t.owned z;rw[t.bh _ _ e]at q;cases q
@[simp] noncomputable def ay (g h:FS):FS:=λρ=>match g ρ with|some (.nx ρ')=>h ρ'|r=>r
@[simp] def aA:FS:=λρ=>some (.nx ρ)
@[simp] noncomputable def bU (c:FT)(g h:FS):FS:=λρ=>match c ρ with|some true=>g ρ|some false=>h ρ|none=>none
@[simp] def aD (f:FE):FS:=λρ=>(f ρ).map λx=>.rt x.1 x.2
@[simp] noncomputable def wg:D->Bool
 |.dk _ _=>true
 |.dt _ _=>true
 |_=>false
@[simp] def j5 (i:Nat):FS:=λρ=>match ρ[i]? with|some (some (d,b))=>some (.rt d (b && !wg d))|_=>none
@[simp] def mj:D->Bool
 |.lst ds=>cc ds
 |_=>false
@[simp] def setE (ρ:Env)(i:Nat)(d:D)(b:Bool):Env :=
 if b8 d=true then ρ.set i (some (d,false))else if b=true/\mj d=true then ρ.set i (some (d,true))else (unown ρ).set i (some (d,false))
@[simp] def ba (i:Nat)(f:FE):FS:=λρ=>(f ρ).map λx=>.nx (setE ρ i x.1 x.2)
@[simp] def Dm (i:Nat)(f:FE):FS:=λρ=>(f (dI ρ)).map λx=>.nx (ρ.set i (some (x.1,false)))
@[simp] def l8 (i:Nat)(f:FE):FS:=λρ=>match ρ[i]? with
 |some (some (.lst ds,true))=>(f ρ).bind λx=>if b8 x.1=true/\ds.length<sizeLine then some (.nx (ρ.set i (some (.lst (ds++[x.1]),true))))else none
 |_=>none
def uu (q:kE K (ay g h) E σ H):zr (kE K g) (kE K h) E σ H:=by
 obtain⟨B0,H0,ρ,r,s,e,p⟩:=q;unfold ay at e;cases G:g ρ with
 |none=>rw[G]at e;cases e
 |some M=>
  rw[G]at e;cases M with
  |nx ρ'=>exact⟨B0,H0,ρ,.nx ρ',s,G,λO H' T=>⟨B0,H0,ρ',r,T,e,p⟩⟩
  |rt d b=>cases e;exact⟨B0,H0,ρ,_,s,G,p⟩
  |bk ρ'=>cases e;exact⟨B0,H0,ρ,_,s,G,p⟩
  |ct ρ'=>cases e;exact⟨B0,H0,ρ,_,s,G,p⟩
def rK (q:kE K aA E σ H):vL E σ H:=by
 obtain⟨B0,H0,ρ,r,s,e,p⟩:=q;cases e
 exact p σ H s
def nO.grown (s:cN K B0 H0 N H σ ρ)(h:aQ H H'):nO K B0 H0 H' σ ρ:=⟨N,s.grow (.grow s.ext.nh h)⟩
def xD (q:kE K (bU c g h) E σ H):zu (qw K c) (kE K g) (kE K h) E σ H:=by
 obtain⟨B0,H0,ρ,r,⟨N,s⟩,e,p⟩:=q;unfold bU at e;cases G:c ρ with
 |none=>rw[G]at e;cases e
 |some b=>
  rw[G]at e;refine⟨N,ρ,b,s.ext.nh,s.rep,G,λM h1=>?_⟩;cases b with
  |true=>rw[if_pos rfl];exact⟨B0,H0,ρ,r,.grown s h1,e,p⟩
  |false=>rw[if_neg (by decide)];exact⟨B0,H0,ρ,r,.grown s h1,e,p⟩
def uv (q:kE K (aD f) E σ H):wT (tD K f) E σ H:=by
 obtain⟨B0,H0,ρ,r,⟨N,s⟩,e,p⟩:=q;obtain⟨x,ex,e⟩:=oY e;subst e;exact⟨N,ρ,x.1,x.2,s.ext.nh,s.rep,ex,λv G N1 M i1 f1=>p v G N1 (s.ext.trans M) i1 λb=>(f1 b).back s.ext.hh⟩
def rL (q:kE K (j5 i) E σ H):wT (lW i) E σ H:=by
 obtain⟨B0,H0,ρ,r,⟨N,s⟩,e,p⟩:=q;unfold j5 at e;split at e
 ·rename_i d b G;cases e
  cases b with
  |false=>
   obtain⟨v,h1,h2⟩:=s.sh i d G;exact⟨v,h1,p v H N s.ext (h2.mono bi) (by simp)⟩
  |true=>
   obtain⟨a,o,h1,h2,h3,h4⟩:=s.ow i d G;cases h4 with
   |lst h4=>exact⟨_,h1,p _ H N s.ext (.lst (fz.of h2) (h4.mono bi)) λ_=>⟨a,_,_,rfl,rfl,h3,h2,h4.mono bi⟩⟩
   |dk hl h4=>exact⟨_,h1,p _ H N s.ext (.dk h2 hl (h4.mono bi)) (by simp)⟩
   |dt hl h4=>exact⟨_,h1,p _ H N s.ext (.dt h2 hl (h4.mono bi)) (by simp)⟩
 ·cases e
def cN.setE (s:cN K B0 H0 N H σ ρ)(x:Ext N N1 H H1)(h:Is K N1 v d)(f:b=true->yW K H N1 v d):cN K B0 H0 N1 H1 (σ.set i (some v)) (setE ρ i d b):=by
 have s1:=s.grow x;unfold DL.setE;by_cases hn:b8 d=true
 ·rw[if_pos hn];exact s1.bind (s1.flat h hn)
 ·rw[if_neg hn];by_cases hb:b=true/\mj d=true
  ·rw[if_pos hb];obtain⟨es,rfl⟩:∃es,d=.lst es:=by cases d<;>first|exact⟨_,rfl⟩|(simp at hb)
   obtain⟨a,vs,ds,rfl,z,ha,O,hs⟩:=f hb.1;cases z
   have G:N a=none:=s.ext.nh.free ha;have T:¬own σ ρ a:=λz=>by obtain⟨U,⟨q,_⟩,_⟩:=s.owned z;rw[G]at q;cases q
   have c:aQ (cA N (own σ ρ)) (cA N1 (λb=>own σ ρ b∨b=a)):=dB λb u e q=>⟨x.bn _ _ e,λz=>z.elim q λz=>by subst z;rw[G]at e;cases e⟩;refine s1.bindOwn O (s.ext.hh.free ha) (λj e q z=>T ⟨j,e,q,z⟩) (λj e _ q=>?_) (λj e _ q=>?_) (.lst (hs.keepT (λt ts st=>?_) hb.2))
   ·obtain⟨w,h1,h2⟩:=s.sh j e q;exact⟨w,h1,h2.mono c⟩
   ·obtain⟨a',o',h1,h2,_,h4⟩:=s.ow j e q;exact⟨a',o',h1,x.bn _ _ h2,h4.mono c⟩
   ·have M:∀u,N1 t=some u->¬boxed u->cA N1 (λb=>own σ ρ b∨b=a) t=some u:=λu e hu=>by
     rw[ce λz=>?_];exact e;rcases z with z|z
     ·obtain⟨U,⟨q,qb⟩,_⟩:=s1.owned z;rw[e]at q;cases q;exact hu qb
     ·subst z;rw[e]at O;cases O;exact hu trivial
    rcases st with (st|⟨o,st⟩)|st
    ·exact .inl (.inl (M _ st (λq=>q)))
    ·exact .inl (.inr ⟨o,M _ st (λq=>q)⟩)
    ·exact .inr st
  ·rw[if_neg hb];exact s1.unown.bind (h.mono λa o e=>by rw[ce iq];exact e)
def pj (q:kE K (ba i f) E σ H):qi (tD K f) (gu i) E σ H:=by
 obtain⟨B0,H0,ρ,r,⟨N,s⟩,e,p⟩:=q;obtain⟨x,ex,e⟩:=oY e;subst e;exact⟨N,ρ,x.1,x.2,s.ext.nh,s.rep,ex,λv G N1 M i1 f1=>p _ G ⟨N1,s.setE M i1 f1⟩⟩
def uw (q:kE K (l8 i f) E σ H):∃(a:Addr)(us:LV),σ[i]? = some (some (V.ref a))/\H a=some (.lst us)/\vW (tD K f) zM σ H λxs H2=>ph (.ref a) xs H2 λ_ T=>E.nx σ T:=by
 obtain⟨B0,H0,ρ,r,⟨N,s⟩,e,p⟩:=q;unfold l8 at e;split at e
 ·rename_i ds G;obtain⟨x,ex,e⟩:=oX e;split at e
  ·rename_i hx;cases e
   obtain⟨a,vs,M,z,h1,h2,h3,h4⟩:=s.owL i _ G;cases z
   refine⟨a,vs,h1,s.ext.nh _ _ h2,N,ρ,x.1,x.2,s.ext.nh,s.rep,ex,λv H1 N1 O i1 f1=>⟨a,vs,v,rfl,rfl,O.hh _ _ (s.ext.nh _ _ h2),by rw[h4.length];exact hx.2,?_⟩⟩;have s1:=s.grow O;obtain⟨a',U,M,z,k1,k2,_,k4⟩:=s1.owL i _ G;cases z
   rw[h1]at k1;cases k1;rw[O.bn _ _ h2]at k2;cases k2;exact p σ _ ⟨_,s1.write G h1 (k4.append (.cons (s1.flat i1 hx.1) .nil))⟩
  ·cases e
 ·cases e
end
def kl (K:Frag)(J:It)(B:Hp)(ds:LD):Prop:=∀(i:Nat)(H:Hp),aQ B H ->
 (∀d,ds[i]? = some d->J.go i H/\∀x H',J.yld i H x H'->∃N,Ext B N H H'/\Is K N x d)/\(ds.length<=i->J.stop i H)
def Dn (K:Frag)(f:FA):TI:=λσ H R=>∃(B:Hp)(ρ:Env)(ds:LD),aQ B H/\di K B σ ρ/\f ρ=some ds/\∀(J:It)(H' N:Hp),Ext B N H H'->kl K J N ds->R J H'
abbrev FG:=D->Env->Option Env
def wh (K:Frag)(tg:FG)(g:TG):Prop:=∀(B0 H0 N H:Hp)(σ:St)(ρ ρ':Env)(v:V)(d:D)(Q:St->Hp->Prop),cN K B0 H0 N H σ ρ->Is K (cA N (own σ ρ)) v d->tg d ρ=some ρ' ->
 (∀G H',nO K B0 H0 H' G ρ'->Q G H')->g v σ H Q
@[simp] noncomputable def dX (i:Nat):FG:=λd ρ=>some (ρ.set i (some (d,false)))
def gS:wh K (dX i) (gu i):=by
 intro B0 H0 N H σ ρ ρ' v d Q s h e k;cases e
 exact k _ H ⟨N,s.bind h⟩
noncomputable def dn (tg:FG)(g:FS):LD->Env->Option Res
 |[],ρ=>some (.nx ρ)
 |d::ds,ρ=>(tg d ρ).bind λG=>match g G with
  |some (.nx ρ')=>dn tg g ds ρ'
  |some (.ct ρ')=>dn tg g ds ρ'
  |some (.bk ρ')=>some (.nx ρ')
  |r=>r
@[simp] def rN (tg:FG)(g:FS)(ρ:Env):dn tg g [] ρ=some (.nx ρ):=by rw[dn]
@[simp] theorem kF (tg:FG)(g:FS)(d:D)(ds:LD)(ρ:Env):dn tg g (d::ds) ρ=(tg d ρ).bind λG=>match g G with
  |some (.nx ρ')=>dn tg g ds ρ'
  |some (.ct ρ')=>dn tg g ds ρ'
  |some (.bk ρ')=>some (.nx ρ')
  |r=>r:=by rw[dn]
@[simp] def nP (f:FA)(tg:FG)(g:FS):FS:=λρ=>(f (dI ρ)).bind λds=>dn tg g ds ρ
def ml (ht:wh K tg t)(s1:cN K B0 H0 N H1 σ ρ)(c:aQ N1 (cA N (own σ ρ)))(J1:kl K J N1 ds)(e:dn tg g ds ρ=some r)(p:Aa K B0 H0 E r):
  ∃W:Nat->Nat->St->Hp->Prop,(∃m,W 0 m σ H1)/\∀i m σ H,W i m σ H->(J.stop i H/\E.nx σ H)∨(J.go i H/\∃N:St->Hp->Prop,(∀G H',N G H'->∃m',m'<m/\W (i+1) m' G H')/\∀x H',J.yld i H x H'->t x σ H' λT H2=>kE K g { E with nx:=N,ct:=N,bk:=E.nx } T H2):=by
 refine⟨λi m σ H=>∃(N:Hp)(ρ:Env),cN K B0 H0 N H σ ρ/\aQ N1 (cA N (own σ ρ))/\m=ds.length - i/\i<=ds.length/\dn tg g (ds.drop i) ρ=some r,⟨ds.length,_,ρ,s1,c,rfl,zero_le _,e⟩,?_⟩;clear e s1 c;rintro i m σ H ⟨N,ρ,s,c,rfl,hi,e⟩;have hs:aQ N1 H:=c.trans (bi.trans s.ext.nh);obtain⟨j1,j2⟩:=J1 i H hs;by_cases M:i<ds.length
 ·obtain⟨go,yl⟩:=j1 ds[i] (by simp[M]);rw[List.drop_eq_getElem_cons M]at e;obtain⟨U,e1,e⟩:=oX e;refine .inr ⟨go,λG H'=>∃(N:Hp)(ρ:Env),cN K B0 H0 N H' G ρ/\aQ N1 (cA N (own G ρ))/\dn tg g (ds.drop (i+1)) ρ=some r,λG H' ⟨N',ρ',s',c',e'⟩=>⟨_,by omega,N',ρ',s',c',rfl,M,e'⟩,λx H' y=>?_⟩;obtain⟨N2,O,i2⟩:=yl x H' y;have x3:Ext (cA N (own σ ρ)) (join (cA N (own σ ρ)) N2) H H':=by
   refine⟨O.hh,cC,λa o e=>?_,λa o e=>?_⟩
   ·cases q:cA N (own σ ρ) a with
    |some u=>rw[cC _ _ q]at e;cases e;exact O.hh _ _ (s.ext.nh _ _ (bi _ _ q))
    |none=>rw[cG q]at e;exact O.nh _ _ e
   ·cases q:cA N (own σ ρ) a with
    |some u=>rw[cC _ _ q]at e;cases e;exact .inl rfl
    |none=>
     rw[cG q]at e;rcases O.new a o e with z|z
     ·rw[c _ _ z]at q;cases q
     ·exact .inr z
  obtain⟨s2,c2⟩:=s.growH x3;have c3:aQ N2 (join (cA N (own σ ρ)) N2):=λa o e=>by
   rcases O.new a o e with z|z
   ·exact cC _ _ (c _ _ z)
   ·rw[cG ((bi.trans s.ext.nh).free z)];exact e
  have i3:=i2.mono (c3.trans c2);have c4:aQ N1 (cA (join N (join (cA N (own σ ρ)) N2)) (own σ ρ)):=(O.bn.trans c3).trans c2;refine ht _ _ _ _ _ _ _ _ _ _ s2.rebase i3 e1 λT H2 ⟨N4,s4⟩=>?_;cases eg:g U with
  |none=>rw[eg]at e;cases e
  |some r1=>
   rw[eg]at e;refine⟨_,_,U,r1,⟨N4,s4⟩,eg,?_⟩;have back:∀ {G:St}{H':Hp}{ρ':Env}{N':Hp},cN K _ _ N' H' G ρ'->cN K B0 H0 N' H' G ρ'/\aQ N1 (cA N' (own G ρ')):=λt=>⟨s2.unbase t,c4.trans t.based⟩;cases r1 with
   |nx ρ'=>exact λG H' ⟨N',t⟩=>⟨N',ρ',(back t).1,(back t).2,e⟩
   |ct ρ'=>exact λG H' ⟨N',t⟩=>⟨N',ρ',(back t).1,(back t).2,e⟩
   |bk ρ'=>cases e;exact λG H' ⟨N',t⟩=>p G H' ⟨N',(back t).1⟩
   |rt d b=>
    cases e
    intro v H' N' x' i' f';have y:=s2.rebase.ext;have h0:aQ H0 (cA H' (λ_=>False)):=λa o e=>by rw[ce (λz=>z)];exact x'.hh _ _ (by
     rw[ce λz=>?_];exact s2.ext.hh _ _ e;obtain⟨_,_,q⟩:=s2.owned z;rw[q]at e;cases e)
    have D7:aQ H0 (cA H' (λ_=>False)):=h0;have hH:aQ H0 (cA H' (λ_=>False)):=h0;have hc:∀a,cA H' (λ_=>False) a=H' a:=λa=>ce (λz=>z);have hb:aQ H0 (cA _ (own σ ρ)):=λa o e=>by
     rw[ce λz=>?_];exact s2.ext.hh _ _ e;obtain⟨_,_,q⟩:=s2.owned z;rw[q]at e;cases e
    have bb:aQ B0 (cA _ (own σ ρ)):=λa o e=>by
     rw[ce λz=>?_];exact s2.ext.bn _ _ e;obtain⟨_,_,q⟩:=s2.owned z;rw[s2.bh _ _ e]at q;cases q
    refine p v H' N' ⟨hb.trans x'.hh,bb.trans x'.bn,x'.nh,λa o e=>?_⟩ i' λz=>(f' z).back hb;rcases x'.new a o e with z|z
    ·exact s2.ext.new a o (bi _ _ z)
    ·exact .inr (hb.free z)
 ·have ei:i=ds.length:=by omega
  subst ei;rw[List.drop_eq_nil_of_le (vT _)]at e;cases e
  exact .inl ⟨j2 (vT _),p σ H ⟨N,s⟩⟩
def ux (G:wh K tg t)(q:kE K (nP f tg g) E σ H):wW (Dn K f) t (kE K g) E σ H:=by
 obtain⟨B0,H0,ρ,r,⟨N,s⟩,e,p⟩:=q;obtain⟨ds,M,e⟩:=oX e;refine⟨cA N (own σ ρ),dI ρ,ds,bi.trans s.ext.nh,s.repH,M,λJ U N1 O T=>?_⟩;obtain⟨s1,c⟩:=s.growH O;exact ml G s1 c T e p
def By (K:Frag)(f:FA):TI:=λσ H R=>∃(B:Hp)(ρ:Env)(ds:LD),aQ B H/\di K B σ ρ/\f ρ=some ds/\∀(J:It)(H' N:Hp),Ext B N H H'->(∀G,kl K J G ds)->R J H'
@[simp] def iR (f:FA)(tg:FG)(g:FS):FS:=λρ=>(f ρ).bind λds=>dn tg g ds ρ
def rO (G:wh K tg t)(q:kE K (iR f tg g) E σ H):wW (By K f) t (kE K g) E σ H:=by
 obtain⟨B0,H0,ρ,r,⟨N,s⟩,e,p⟩:=q;obtain⟨ds,M,e⟩:=oX e;refine⟨N,ρ,ds,s.ext.nh,s.rep,M,λJ U N1 O T=>?_⟩;exact ml G (s.grow O) (aQ.refl _) (T _) e p
end DL
namespace DL
open PySem PySem.Spec PyProof.Rows L2
abbrev JE (X:Cx)(e:Expr)(f:FE):Prop:=PE X e (tD X.K f)
abbrev JT (X:Cx)(e:Expr)(f:FT):Prop:=PT X e (qw X.K f)
abbrev JW (X:Cx)(e:Expr)(f:FT):Prop:=PW X e (qw X.K f)
abbrev JA (X:Cx)(es:QD)(f:FA):Prop:=PA X es (zZ X.K f)
abbrev JS (X:Cx)(st:Stmt)(g:FS):Prop:=PS X st (kE X.K g)
abbrev lA (X:Cx)(st:List Stmt)(g:FS):Prop:=lr X st (kE X.K g)
abbrev JI (X:Cx)(tg G:Expr)(f:FA):Prop:=PI X tg G (Dn X.K f)
def xE (M:Model)(A:Around)(O:QD)(T:Expr)(env:PySem.Env)(U:Value)(E:QV)(P:Shared->Prop):Shared->Prop :=
 wpAny M A (forIn O true λc r=>if r=true then do let ok ←isTrue c env (eval c env);pure (ForInStep.yield ok)else pure (ForInStep.yield r))
  (λok G=>if ok=true then wpAny M A (eval T env) (λx=>wpAny M A (call (.builtin "list.append") [U,x]) (λ_=>P) E) E G else P G) E
def lB {E:QV}(hE:∀x s,¬E x s)(I:Nat->Shared->Prop)
  (T:∀n s,I n s->wpAny (model prog w) A (pyNext it) (λr G=>match r with
   |none=>R (.ok .next) G
   |some v=>wpAny (model prog w) A (letOwnedTupleGo oM it v) (λ_=>wpAny (model prog w) A (assign oM env v) (λ_=>xE (model prog w) A oN lQ env v7 E λs=>∃m,m<n/\I m s) E) E G) E s)
  (n:Nat) (h:I n s):codeAny (model prog w) A (.compLoop (.ListComp lQ [⟨oM,du,oN,0⟩] scope pos) 0 it v7 env) R s:=by
 refine codeAny_loop rfl I (λn s hI=>?_) n h;show wpAny _ A ((compTurn (.ListComp lQ [⟨oM,du,oN,0⟩] scope pos) 0 it v7 env).onRaise (λx=>do noteFrame x env;theTreesLotGoes x)) _ _ s;refine wpAny_noted (wpAny_mono (E:=E) ?_ (λ_ _ q=>q) λ_ _ z=>(hE _ _ z).elim);rw[compTurn_list];refine wX (wpAny_standAt (wX (bV (T n s hI) λr G M=>?_)));cases r with
 |none=>exact wY M
 |some v=>
  refine wX (bV M λ_ G M=>wX (bV M λ_ s₂ U=>wX (bV U λok s₃ O=>?_)));cases ok with
  |false=>exact wY ⟨rfl,O⟩
  |true=>exact wX (wX (bV O λx s₄ h₄=>wX (bV h₄ λ_ s₅ h₅=>wY (wY ⟨rfl,h₅⟩))))
def Ext.upd (x:Ext B N H H')(h:H a=none)(G:N a=none):Ext B N H (upd H' a o) :=
 ⟨λb u e=>by rw[aK (λz=>by subst z;rw[h]at e;cases e)];exact x.hh _ _ e,x.bn,λb u e=>by rw[aK (λz=>by subst z;rw[G]at e;cases e)];exact x.nh _ _ e,x.new⟩
noncomputable abbrev eG (X:Cx)(N':LS)(scope:Scope)(cl:List (Str×Addr))(C:Addr)(G:Shared)(M:Hp)(fp:List Addr):Cx :=
 { X with N:=N',s₀:=G,H₀:=M,env:=compEnvC scope cl C X.env,outer:=X.stack,stack:=X.stack,ex:=fp,fn:=λ_=>false,pn:=[],xe:=λ_ _=>False }
inductive ij (X:Cx)(N':List Str)(scope:Scope)(cl:List (Str×Addr)):Nat->List Nat->Prop where
 |nil {j:Nat}(h:N'.length=j):ij X N' scope cl j []
 |cons {j i:Nat}{r:List Nat}{x:Str}(h1:N'[j]? = some x) (h2:X.N[i]? = some x) (h3:X.env.kindOf x=some .cell∨X.env.kindOf x=some .free)
   (h4:(relabel scope X.env).names.lookup x=some .cell∨(relabel scope X.env).names.lookup x=some .free) (h5:cl.lookup x=X.env.cells.lookup x) (t:ij X N' scope cl (j+1) r):ij X N' scope cl j (i::r)
theorem ij.len:∀ {j:Nat}{cap:LN},ij X N' scope cl j cap->N'.length=j+cap.length
 |_,_,.nil h=>by rw[h];rfl
 |j,i::r,.cons _ _ _ _ _ t=>by rw[t.len,vE];omega
theorem ij.get:∀ {j:Nat}{cap:LN}{k i:Nat},ij X N' scope cl j cap->cap[k]? = some i->∃x,N'[j+k]? = some x/\X.N[i]? = some x/\(X.env.kindOf x=some .cell∨X.env.kindOf x=some .free) /\
  ((relabel scope X.env).names.lookup x=some .cell∨(relabel scope X.env).names.lookup x=some .free)/\cl.lookup x=X.env.cells.lookup x
 |_,_,_,_,.nil _,e=>by simp at e
 |j,_,0,_,.cons h1 h2 h3 h4 h5 _,e=>by simp at e;subst e;exact⟨_,h1,h2,h3,h4,h5⟩
 |j,_,k+1,i,.cons _ _ _ _ _ t,e=>by
  obtain⟨x,q,r⟩:=t.get (k:=k) (i:=i) (by simpa using e);exact⟨x,by rw[show j+(k+1)=j+1+k by omega];exact q,r⟩
structure CompSc (X:Cx)(scope:Scope)(cl:List (Str×Addr)):Prop where
 clos:closureFor scope X.env=pure cl
 nocell:∀y∈scope.names,y.2≠.cell
 kind:scope.kind=.function
 names:∀y∈scope.names,y.2=.local->scope.names.lookup y.1=some .local
 sub:∀x c,cl.lookup x=some c->X.env.cells.lookup x=some c
 has:∀x,((relabel scope X.env).names.lookup x=some .cell∨(relabel scope X.env).names.lookup x=some .free)->∃c,cl.lookup x=some c
noncomputable def cW:List (Str×NameKind)->List (Str×Addr)->List (Str×Addr)->List (Str×Addr)
 |[],_,cs=>cs
 | (n,k)::r,cells,cs=>cW r cells (if k == .free then (match cells.lookup n with|some c=>(n,c)::cs|none=>cs)else cs)
def qx:∀(names:List (Str×NameKind))(cs:List (Str×Addr)),(∀y∈names,y.2=.free->(env.cells.lookup y.1).isSome=true) ->
    (do let mut cs:=cs
        for (name,kind)in names do
          if kind == .free then cs:=(name,←cellOf env name)::cs
        return cs:Sem (List (Str×Addr)))=pure (cW names env.cells cs):=by
  intro names;induction names with
  |nil=>intro cs _;rfl
  |cons y r O=>
    intro cs h;obtain⟨n,k⟩:=y;have G:=λcs=>O cs λy hy=>h y (mZ _ hy);by_cases hk:k=.free
    . subst hk;have hc:=h (n,.free) mX rfl;cases q:env.cells.lookup n with
      |none=>rw[q]at hc;cases hc
      |some c=>
        have M:cW ((n,.free)::r) env.cells cs=cW r env.cells ((n,c)::cs):=by
          rw[cW,q];rfl
        rw[M,←G ((n,c)::cs)];have T:cellOf env n=pure c:=by unfold cellOf;rw[q]
        simp only[forIn_cons,beq_self_eq_true,if_true,T];rfl
    . have hb:(k == NameKind.free)=false:=by simpa using hk
      have M:cW ((n,k)::r) env.cells cs=cW r env.cells cs:=by rw[cW,hb];rfl
      rw[M,←G cs];simp only[forIn_cons,hb,Bool.false_eq_true,if_false];rfl
theorem j6:∀(names:List (Str×NameKind))(cs:List (Str×Addr)),(∀y d,cs.lookup y=some d->cells.lookup y=some d)->(cW names cells cs).lookup x=some c->cells.lookup x=some c
 |[],cs,h,e=>h x c e
 | (n,k)::r,cs,h,e=>by
  rw[cW]at e;refine j6 r _ (λy d q=>?_) e;split at q
  ·split at q
   ·rename_i M G;rw[lookup_cons]at q;split at q
    ·rename_i hy;cases q
     rw[eq_of_beq hy];exact G
    ·exact h y d q
   ·exact h y d q
  ·exact h y d q
theorem kG:∀(names:List (Str×NameKind))(cs:List (Str×Addr)),(cs.lookup x).isSome=true->((cW names cells cs).lookup x).isSome=true
 |[],cs,h=>h
 | (n,k)::r,cs,h=>by
  rw[cW];refine kG r _ ?_;split
  ·split
   ·rw[lookup_cons];split
    ·rfl
    ·exact h
   ·exact h
  ·exact h
theorem j7:∀(names:List (Str×NameKind))(cs:List (Str×Addr)),(x,NameKind.free)∈names->(cells.lookup x).isSome=true->((cW names cells cs).lookup x).isSome=true
 | (n,k)::r,cs,hm,hc=>by
  rw[cW];rcases mem_cons.mp hm with e|e
  ·cases e
   refine kG r _ ?_;cases q:cells.lookup x with
   |none=>rw[q]at hc;cases hc
   |some c=>simp
  ·exact j7 r _ e hc
theorem g9 {α:Type}{x:Str}{k:α}:∀ {l:List (Str×α)},l.lookup x=some k->(x,k)∈l
 | (n,j)::r,h=>by
  rw[lookup_cons]at h;split at h
  ·rename_i e;cases h
   rw[eq_of_beq e];exact mX
  ·exact mZ _ (g9 h)
def xF {X:Cx}{scope:Scope}(h1:∀y∈scope.names,y.2≠.cell)(h2:scope.kind=.function)(h3:∀y∈scope.names,y.2=.local->scope.names.lookup y.1=some .local)(G:(scope.names.all λy=>!(y.2 == NameKind.free) || (X.env.cells.lookup y.1).isSome)=true):
  CompSc X scope (cW scope.names X.env.cells []):=by
 have h4:∀y∈scope.names,y.2=.free->(X.env.cells.lookup y.1).isSome=true:=λy hy e=>by
  have:=uS G y hy;rw[e]at this;simpa using this
 have frees:∀x,((relabel scope X.env).names.lookup x=some .cell∨(relabel scope X.env).names.lookup x=some .free)->(x,NameKind.free)∈scope.names:=λx h=>by
  have:∃k,(x,k)∈(relabel scope X.env).names/\(k=.cell∨k=.free):=by
   rcases h with h|h
   ·exact⟨_,g9 h,.inl rfl⟩
   ·exact⟨_,g9 h,.inr rfl⟩
  obtain⟨k,hm,hk⟩:=this;obtain⟨⟨n,j⟩,hj,e⟩:=mem_map.mp hm;dsimp only at e;split at e
  ·rename_i hc;rw[vD,vD]at hc;cases e
   rw[←eq_of_beq hc.1.1];exact hj
  ·cases e
   rcases hk with rfl|rfl
   ·exact absurd rfl (h1 _ hj)
   ·exact hj
 exact⟨qx scope.names [] h4,h1,h2,h3,λx c e=>j6 scope.names [] (λy d q=>by cases q) e,λx h=>by
  have:=j7 (x:=x) scope.names [] (frees x h) (h4 _ (frees x h) rfl);exact isSome_iff_exists.mp this⟩
def uy {scope:Scope}{cells:List (Str×Addr)}{x:Str}(h:(x,NameKind.free)∈scope.names)(hc:(cells.lookup x).isSome=true):(cW scope.names cells []).lookup x=cells.lookup x:=by
 obtain⟨c,e⟩:=isSome_iff_exists.mp (j7 (x:=x) scope.names [] h hc);rw[e,j6 scope.names [] (λy d q=>by cases q) e]
noncomputable def qy (nT:Nat)(cap:LN)(σ:St):St:=List.replicate nT none++cap.map λi=>(σ[i]?).join
noncomputable def jk (nT:Nat)(cap:LN)(ρ:Env):Env:=List.replicate nT none++cap.map λi=>match ρ[i]? with|some (some (d,_))=>some (d,false)|_=>none
def pk {α:Type}{nT:Nat}{cap:LN}{f:Nat->Option α}{j:Nat}{v:α}(h:(List.replicate nT none++cap.map f)[j]? = some (some v)):∃k i,j=nT+k/\cap[k]? = some i/\f i=some v:=by
 by_cases hj:j<nT
 ·rw[getElem?_append_left (by simpa using hj),getElem?_replicate,if_pos hj]at h;cases h
 ·rw[List.getElem?_append_right (by simpa using not_lt.mp hj),length_replicate,vB]at h;obtain⟨i,h1,h2⟩:=oY h;exact⟨j - nT,i,by omega,h1,h2⟩
def uz {α:Type}{nT:Nat}{cap:LN}{f:Nat->Option α}{k i:Nat}{v:α}(h1:cap[k]? = some i)(h2:f i=some v):(List.replicate nT none++cap.map f)[nT+k]? = some (some v):=by
 rw[List.getElem?_append_right (by simp),length_replicate,vB,Nat.add_sub_cancel_left,h1];simp[h2]
def di.caps {K:Frag}{B:Hp}{σ:St}{ρ:Env}{nT:Nat}{cap:LN}(h:di K B σ ρ):di K B (qy nT cap σ) (jk nT cap ρ):=⟨h.tb,λj d b q=>by
 obtain⟨k,i,rfl,h1,h2⟩:=pk q;split at h2
 ·rename_i d' O e;cases h2
  obtain⟨v,G,M⟩:=h.at' i _ _ e;exact⟨v,uz h1 (by rw[G];rfl),M⟩
 ·cases h2⟩
noncomputable def dM (tg:FG)(c:FT)(fe:FE)(ρ:Env):LD->Option LD
 |[]=>some []
 |d::r=>(tg d ρ).bind λG=>(c G).bind λb=>if b=true then (fe G).bind λx=>(dM tg c fe ρ r).map (x.1 :: ·)else dM tg c fe ρ r
@[simp] def yX (tg:FG)(c:FT)(fe:FE)(ρ:Env):dM tg c fe ρ []=some []:=by rw[dM]
@[simp] def nQ (tg:FG)(c:FT)(fe:FE)(ρ:Env)(d:D)(r:LD):dM tg c fe ρ (d::r)=(tg d ρ).bind λG=>(c G).bind λb=>if b=true then (fe G).bind λx=>(dM tg c fe ρ r).map (x.1 :: ·)else dM tg c fe ρ r:=by rw[dM]
@[simp] def bC (fi:FA)(nT:Nat)(cap:LN)(tg:FG)(c:FT)(fe:FE):FE:=λρ=>(fi ρ).bind λitems=>if items.length<=sizeLine then (dM tg c fe (jk nT cap ρ) items).map λds=>(.lst ds,true)else none
def wj (K:Frag)(n:Nat)(tg:FG)(g:TG):Prop:=∀(B H:Hp)(σ:St)(ρ M:Env)(v:V)(d:D)(Q:St->Hp->Prop),(∀i,i<n->ρ[i]? = some none)->di K B σ ρ->aQ B H->Is K B v d->tg d ρ=some M ->
 ρ.length=σ.length->(∀G,di K B G M->(∀O,di K O σ ρ->di K O G ρ)->ρ.length=G.length->Q G H)->g v σ H Q
def mn {K:Frag}{n i:Nat}(hi:i<n):wj K n (dX i) (gu i):=by
 intro B H σ ρ O v d Q cl rep s h e hl k;cases e
 have M:i<σ.length:=by
  have:=(vV (cl i hi)).1;omega
 refine k _ ⟨rep.tb,λj e b q=>?_⟩ ?_ (by simpa using hl)
 ·rcases bB q with⟨rfl,p⟩|⟨ne,p⟩
  ·cases p
   exact⟨v,by simp[M],h⟩
  ·obtain⟨w,h1,h2⟩:=rep.at' j e b p;exact⟨w,by rw[vC ne];exact h1,h2⟩
 ·intro T G;refine⟨G.tb,λj e b q=>?_⟩;obtain⟨w,h1,h2⟩:=G.at' j e b q;have ne:i≠j:=λz=>by subst z;rw[cl i hi]at q;cases q
  exact⟨w,by rw[vC ne];exact h1,h2⟩
def JC (X:Cx)(G:QD)(c:FT):Prop:=∀(ac:AO)(s:Shared)(σ:St)(H:Hp)(Q:Bool->Hp->Prop),Inv X ac σ H s->qw X.K c σ H Q ->
 wq X (forIn G true λc r=>if r=true then do let ok ←isTrue c X.env (eval c X.env);pure (ForInStep.yield ok)else pure (ForInStep.yield r)) (TP X ac σ Q) X.xe s
@[simp] def cO:FT:=λ_=>some true
def fD:JC X [] cO:=by
 intro ac s σ H Q I h;obtain⟨B,ρ,c,G,rep,e,q⟩:=h;cases e
 exact wpAny_tests_nil ⟨H,I,q H (.refl H)⟩
def nR (h:JT X e f):JC X [e] f:=λac s σ H Q I q=>wpAny_tests_one (h ac s σ H Q I q)
inductive CI (Y:Cx)(tn:Nat->Heap->Prop)(fp:List Addr)(N1 H2:Hp)(κ:Env)(a:Addr)(l:List D->Option (List D))(items ds:List D)(s:Shared):Nat->Prop
 |mk (i:Nat) (N:Hp) (vs:List V) (es r:List D) (σ:St) (H:Hp) (I:Inv Y [] σ H s) (ti:tn i s.heap) (hn:∀b∈fp,H b=none) (hi:i<=items.length) (rp:di Y.K N1 σ κ) (hl:κ.length=σ.length)
   (x:Ext N1 N H2 H) (n0:N a=none) (h0:H a=some (.lst vs)) (vl:vs.length<=i) (iv:IsL Y.K N vs es) (er:l (items.drop i)=some r) (ed:es++r=ds):CI Y tn fp N1 H2 κ a l items ds s (items.length - i)
def Ext.both (x:Ext N1 N H2 H)(y:Ext N1 N' H H'):Ext N (join N N') H H'/\aQ N' (join N N'):=by
 refine⟨⟨y.hh,cC,λa o e=>?_,λa o e=>?_⟩,λa o e=>?_⟩
 ·cases z:N a with
  |some G=>rw[cC _ _ z]at e;cases e;exact y.hh _ _ (x.nh _ _ z)
  |none=>rw[cG z]at e;exact y.nh _ _ e
 ·cases z:N a with
  |some G=>rw[cC _ _ z]at e;cases e;exact .inl rfl
  |none=>
   rw[cG z]at e;exact(y.new a o e).elim (λM=>by rw[x.bn _ _ M]at z;cases z) .inr
 ·exact(y.new a o e).elim (λz=>cC _ _ (x.bn _ _ z)) λz=>by rw[cG (x.nh.free z)];exact e
def Ext.off (x:Ext B N H H')(h:B a=none)(h':H a=some o):N a=none:=by
 cases z:N a with
 |none=>rfl
 |some u=>
  rcases x.new _ _ z with z|z
  ·rw[h]at z;cases z
  ·rw[h']at z;cases z
def qz {Y:Cx}(O:Y.calm=true)(hE:∀x s,¬Y.xe x s)(hg:PG Y tg g)(Bd:wj Y.K nT js g)(hc:JC Y oN fc)(he:JE Y lQ fe)(T:Turn Y.prog Y.w Y.K tg J fp it tn)(Be:∀i,i<nT->κ[i]? = some none)
  (J1:kl Y.K J N1 items) (tP:items.length<=sizeLine) (hD:H2 a=none) (CK:∀H',(∀b∈fp,H' b=none)->∀b∈fp,jg Y [] H' b)
  (hR:∀s4 M H' N vs,Inv Y [] M H' s4->Ext N1 N H2 H'->N a=none->H' a=some (.lst vs)->IsL Y.K N vs ds->R (.ok .next) s4) (h:CI Y tn fp N1 H2 κ a (dM js fc fe κ) items ds s items.length):
  codeAny (model Y.prog Y.w) Y.A (.compLoop (.ListComp lQ [⟨tg,du,oN,0⟩] scope pos) 0 (.ref it) (.ref a) Y.env) R s:=by
 refine lB hE (λn s=>CI Y tn fp N1 H2 κ a (dM js fc fe κ) items ds s n) (λn s' h=>?_) _ h;obtain⟨i,N,vs,es,r,M,H',I',ti,hn,hi,rp,tJ,x,BA,Bf,EI,Bg,er,BB⟩:=h;have sH:aQ N1 H':=x.bn.trans x.nh;by_cases CL:i<items.length
 ·obtain⟨go,yl⟩:=(J1 i H' sH).1 items[i] (by simp[CL]);refine bV (T.item Y rfl rfl rfl O i [] s' M H' Y.xe I' (CK _ hn) ti go) λq s4 ⟨u,eu,hq⟩=>?_;subst eu;refine bV hq λ_ s5 ⟨xv,H5,I5,rx,y5,t5,CB⟩=>?_;obtain⟨N5,x5,i5⟩:=yl xv H5 y5;obtain⟨x6,c5⟩:=x.both x5;have D8:(join N N5) a=none:=x6.off BA Bf;have BC:aQ (join N N5) H5:=x6.nh;rw[List.drop_eq_getElem_cons CL]at er;unfold dM at er;obtain⟨ρ1,e1,er⟩:=oX er;obtain⟨b,e2,er⟩:=oX er;have yL:∀(s9:Shared)(U:St)(H9 N9:Hp)(Bh:LV)(BE r9:LD),Inv Y (ik fp s5.heap) U H9 s9->di Y.K N1 U κ->κ.length=U.length->Ext N1 N9 H2 H9->N9 a=none->H9 a=some (.lst Bh) ->
    Bh.length<=i+1->IsL Y.K N9 Bh BE->dM js fc fe κ (items.drop (i+1))=some r9->BE++r9=ds->∃m,m<items.length - i/\CI Y tn fp N1 H2 κ a (dM js fc fe κ) items ds s9 m:=λs9 U H9 N9 Bh BE r9 I9 EJ l9 x9 n9 h9 v9 i9 EK EL=>
   ⟨_,by omega,i+1,N9,Bh,BE,r9,U,H9,I9.pins_of λp hp=>by simp at hp,T.keep _ _ _ t5 λb hb o e=>(I9.pin (b,o) (mY _ (fB hb e))).1,λb hb=>by
    obtain⟨o,e,d⟩:=T.obj _ _ t5 b hb;exact(I9.pin (b,o) (mY _ (fB hb e))).2.1,CL,EJ,l9,x9,n9,h9,v9,i9,EK,EL⟩
  refine bV (hg (ik fp s5.heap) s5 M H5 xv u (λG H6=>H6=H5/\di Y.K (join N N5) G ρ1/\di Y.K N1 G κ/\κ.length=G.length) (I5.pinned (CK _ CB) (T.obj _ _ t5)) rx
   (Bd (join N N5) H5 M κ ρ1 xv items[i] _ Be (rp.mono (x.bn.trans cC)) BC (i5.mono c5) e1 tJ λσ1 r1 r2 l1=>⟨rfl,r1,r2 N1 rp,l1⟩)) λ_ s6 ⟨G,H6,I6,eH,D9,DA,l6⟩=>?_
  subst eH;have CM:H6 a=some (.lst vs):=x5.hh _ _ Bf;refine bV (hc _ s6 G H6 (λc H7=>c=b/\aQ H6 H7) I6 ⟨join N N5,ρ1,b,BC,D9,e2,λH7 h7=>⟨rfl,h7⟩⟩) λok s7 ⟨H7,I7,eb,h7⟩=>?_;subst eb;have x7:Ext N1 (join N N5) H2 H7:=(x.trans x6).trans (.grow BC h7);cases ok with
  |false=>
   rw[if_neg (by decide)]at er ⊢;exact yL s7 G H7 (join N N5) vs es r I7 DA l6 x7 D8 (h7 _ _ CM) (Nat.le_succ_of_le EI) (Bg.mono cC) er BB
  |true=>
   rw[if_pos rfl]at er ⊢;obtain⟨y,e3,er⟩:=oX er;obtain⟨r',e4,er⟩:=oY er;subst er;refine bV (he _ s7 G H7 (λv H8=>∃N8,Ext (join N N5) N8 H7 H8/\Is Y.K N8 v y.1) I7 ⟨join N N5,ρ1,y.1,y.2,BC.trans h7,D9,e3,λv H8 N8 x8 i8 _=>⟨N8,x8,i8⟩⟩) λw8 s8 ⟨v8,H8,I8,r8,N8,x8,i8⟩=>?_;refine bV (kB _ s8 G H8 (.ref a) [v8] (.ref a) [w8] (λ_ H9=>H9=upd H8 a (.lst (vs++[v8]))) I8 rfl (.cons r8 .nil) ⟨_,vs,v8,rfl,rfl,x8.hh _ _ (h7 _ _ CM),by omega,rfl⟩) λ_ s9 ⟨_,H9,I9,_,e9⟩=>?_;subst e9;have DB:=x8.off D8 (h7 _ _ CM);exact yL s9 G _ N8 (vs++[v8]) (es++[y.1]) r' I9 DA l6 ((x7.trans x8).upd hD DB) DB aM (by rw[vA,length_singleton];omega) ((Bg.mono (cC.trans x8.bn)).append (.cons i8 .nil)) e4 (by rw[append_assoc];exact BB)
 ·obtain rfl:i=items.length:=by omega
  rw[List.drop_eq_nil_of_le (vT _)]at er;cases er
  rw[append_nil]at BB;subst BB;refine bV (T.done Y rfl rfl rfl O items.length [] s' M H' Y.xe I' (CK _ hn) ti ((J1 _ H' sH).2 (vT _))) λq s4 ⟨hq,I9⟩=>?_;subst hq;exact hR s4 M H' N vs I9 x BA Bf Bg
def j8 {X:Cx}(Bi:X.calm=true){tg du lQ:Expr}{oN:QD}{scope:Scope}{pos:Pos}{cl:List (Str×Addr)}{N':LS}{nT:Nat}{cap:LN}{js:FG}{g:TG}{fc:FT}{fe:FE}
  (S:CompSc X scope cl) (cp:ij X N' scope cl nT cap)
  (hg:∀C s H fp,PG (eG X N' scope cl C s H fp) tg g) (Bd:wj X.K nT js g) (hc:∀C s H fp,JC (eG X N' scope cl C s H fp) oN fc) (he:∀C s H fp,JE (eG X N' scope cl C s H fp) lQ fe)
  {ac:AO}{σ:St}{H2:Hp}{s2:Shared}{it:Addr}{fp:List Addr}{tn:Nat->Heap->Prop}{J:It}{N1:Hp}{ρ:Env}{items ds:LD}{E:QV}
  (I2:Inv X ac σ H2 s2) (T:Turn X.prog X.w X.K tg J fp it tn) (v5:tn 0 s2.heap) (f2:∀b∈fp,jg X ac H2 b)
  (rep:di X.K N1 σ ρ) (sN:aQ N1 H2) (J1:kl X.K J N1 items) (tP:items.length<=sizeLine) (ec:dM js fc fe (jk nT cap ρ) items=some ds) {RR:Value->Addr->Result->Shared->Prop}
  (EM:∀(Dd C:Addr)(s':Shared)(H' N:Hp)(vs:LV)(m:SV),H2 Dd=none->Inv X ac σ H' s'->s'.heap.Ns C m->jg X ac H' C->Ext N1 N H2 H'->N Dd=some (.lst vs)->IsL X.K N vs ds->RR (.ref Dd) C (.ok .next) s'):
  wq X (newList []) (λv7 U=>wq X (newFunctionEnv scope X.env.globals cl [] X.env.qual none .none (some X.env)) (λBj s₄=>
   codeAny (model X.prog X.w) X.A (.compStart (.ListComp lQ [⟨tg,du,oN,0⟩] scope pos) 0 (.ref it) v7 { Bj with scope:=relabel scope X.env }) (RR v7 Bj.locals) s₄) E U) E s2:=by
 refine wpAny_newObj_type (wpAny_newFunctionEnv S.nocell (by intro y hy;simp at hy) (λh₁ M O=>?_) S.kind);dsimp only at M O ⊢;have hD:H2 s2.heap.objs.size=none:=I2.fresh;have I3:Inv X ac σ (upd H2 s2.heap.objs.size (.lst [])) { s2 with heap:=s2.heap.push { cls:=.type "list",dict:=none,data:=.seq ([]:LU).toArray } }:=I2.lnew (t':=s2.toks) (ys:=[]) (its:=[]) .nil (zero_le _);generalize hH3:s2.heap.push { cls:=.type "list",dict:=none,data:=.seq ([]:LU).toArray }=g3 at M O I3 ⊢;have hC:g3.objs.size=s2.heap.objs.size+1:=by rw[←hH3,Heap.size_push]
 have vF:∀b o,s2.heap.get? b=some o->g3.get? b=some o:=λb o e=>hH3 ▸ vZ _ e;have G:∀b o,g3.get? b=some o->h₁.get? b=some o:=λb o e=>O.extBut b o (vS (vX e)) (vZ _ e);have EN:∀b o,g3.get? b=some o->b≠g3.objs.size:=λb o e=>vS (vX e);have DC:∀b∈fp,∃o,s2.heap.get? b=some o:=λb hb=>let ⟨o,e,_⟩:=T.obj 0 s2.heap v5 b hb;⟨o,e⟩;have EO:∀b∈fp,b≠s2.heap.objs.size:=λb hb=>let ⟨o,e⟩:=DC b hb;vS (vX e);have DD:∀b∈fp,b≠g3.objs.size:=λb hb=>let ⟨o,e⟩:=DC b hb;EN b o (vF b o e);have DE:∀x c,X.env.cells.lookup x=some c->c≠g3.objs.size:=λx c e=>by
  obtain⟨v,z⟩:=I3.cell x c e;exact vS z.lt
 have EQ:(upd H2 s2.heap.objs.size (HO.lst [])) g3.objs.size=none:=I3.hok.fresh (vT _);have stk:∀b∈qR X.stack,∃o,s2.heap.get? b=some o:=λb hb=>by
  obtain⟨_,o,ho,_⟩:=(I2.stack).mem hb;exact⟨o,ho⟩
 -- the block's context
 let Y:Cx:=eG X N' scope cl g3.objs.size { s2 with heap:=g3 } (upd H2 s2.heap.objs.size (.lst [])) fp;have ok:Y.Ok:=by
  refine⟨I2.ok.mod,?_,I2.ok.glob,I2.ok.blt,vT _,λx y c e1 e2=>I2.ok.inj x y c (S.sub x c e1) (S.sub y c e2),λx h=>S.has x h,λx c h=>absurd h uY,I2.ok.hd,I2.ok.frames,.inl rfl,λb hb=>⟨DD b hb,λx c e=>(f2 b hb).2.2.2.2.1 x c (S.sub x c e)⟩,λb o e=>?_,?_,λb o e hb=>?_,λb hb hz=>?_,I3.stack,λb hb=>I3.stkFree b hb⟩
  ·show(relabel scope X.env).kind=.function;exact S.kind
  ·exact I3.bs b o e
  ·exact vR I3.ok.bsz I3.sz
  ·have h1:=(f2 b hb).2.2.2.1;rcases h1 with z|z
   ·exact I2.ok.noex b o e z
   ·exact absurd (vQ (vX e) (vR I2.ok.bsz z)) (lt_irrefl _)
  ·rcases mem_cons.mp (I2.stkSub b hz)with z|z
   ·exact(f2 b hb).2.1 z
   ·exact(f2 b hb).2.2.1 z
 have I4:Inv Y [] (qy nT cap σ) (upd H2 s2.heap.objs.size (.lst [])) { s2 with heap:=h₁,toks:=s2.toks+([]:List (Str×Value)).length }:=by
  refine⟨ok,rfl,I2.bare,Un.kept G,⟨_,M,λj x v e1 e2 e3=>?_⟩,λx c e=>?_,EQ,λx c e=>I3.freeC x c (S.sub x c e),λp hp=>absurd (show p∈[]from hp) not_mem_nil,I3.hok.kept G,?_⟩
  ·obtain⟨k,i,rfl,h1,h2⟩:=pk e2;obtain⟨y,g1,g2,DF,g4,g5⟩:=cp.get h1;have DG:N'[nT+k]? = some x:=e1;rw[g1]at DG;cases DG;have CH:σ[i]? = some (some v):=by
    cases q:σ[i]? with
    |none=>rw[q]at h2;cases h2
    |some z=>rw[q]at h2;have:z=some v:=h2;rw[this]
   obtain⟨m,_,hl⟩:=I3.loc;obtain⟨u,r,l⟩:=hl i _ v g2 CH (DF.elim (λz=>.inr (.inl z)) λz=>.inr (.inr z));refine⟨u,r,?_⟩;rcases l with⟨l,_⟩|⟨_,c,lc,ic⟩
   ·rcases DF with z|z<;>(rw[z]at l;cases l)
   ·refine .inr ⟨g4,c,by show cl.lookup _=some c;rw[g5];exact lc,?_⟩;obtain⟨o,ho,hd⟩:=ic;exact⟨o,G _ _ ho,hd⟩
  ·obtain⟨v,o,ho,hd⟩:=I3.cell x c (S.sub x c e);exact⟨v,o,G _ _ ho,hd⟩
  ·show(qy nT cap σ).length=N'.length;unfold qy;rw[cp.len];simp
 have yK:∀U:Shared,U={ s2 with heap:=h₁,toks:=s2.toks+([]:List (Str×Value)).length }->codeAny (model Y.prog Y.w) Y.A (.compLoop (.ListComp lQ [⟨tg,du,oN,0⟩] scope pos) 0 (.ref it) (.ref s2.heap.objs.size) Y.env) (RR (.ref s2.heap.objs.size) g3.objs.size) U:=by
  rintro U rfl;refine qz (Y:=Y) Bi (λ_ _ z=>z) (hg _ _ _ _) Bd (hc _ _ _ _) (he _ _ _ _) T (λi hi=>?_) J1 tP hD (λH' hn b hb=>⟨hn b hb,DD b hb,ok.exfs b hb,.inl hb,λx c e=>(f2 b hb).2.2.2.2.1 x c (S.sub x c e),λp hp=>absurd (show p∈[]from hp) not_mem_nil⟩) (λs4 σ' H' N vs I9 x BA Bf Bg=>?_)
   ⟨0,N1,[],[],ds,qy nT cap σ,_,I4,T.keep _ _ _ v5 λb hb o e=>G _ _ (vF _ _ e),λb hb=>?_,zero_le _,rep.caps,?_,(Ext.refl sN).upd hD (sN.free hD),sN.free hD,aM,zero_le _,.nil,by simpa using ec,rfl⟩
  ·unfold jk;rw[getElem?_append_left (by simpa using hi),getElem?_replicate,if_pos hi]
  ·obtain⟨m,hm,_⟩:=I9.loc;have k:aQ N (upd N s2.heap.objs.size (.lst vs)):=λa o e=>by rw[aK (λz=>by subst z;rw[BA]at e;cases e)];exact e
   refine EM s2.heap.objs.size g3.objs.size s4 H' (upd N s2.heap.objs.size (.lst vs)) vs m hD (I2.call' (ch:=fp) I9.os ((Un.laid vF (vT _) hD).trans I9.base) I9.hok I9.bare λb hb=>⟨(f2 b hb).2.2.2.1,(f2 b hb).2.1,(f2 b hb).2.2.2.2.1,(f2 b hb).2.2.2.2.2⟩) hm (I2.fpOk (by rw[hC];exact Nat.le_succ _) I9.free) ⟨x.hh,x.bn.trans k,λa o e=>?_,λa o e=>?_⟩ aM (Bg.mono k)
   ·by_cases z:a=s2.heap.objs.size
    ·subst z;rw[aM]at e;cases e;exact Bf
    ·rw[aK z]at e;exact x.nh _ _ e
   ·by_cases z:a=s2.heap.objs.size
    ·subst z;exact .inr hD
    ·rw[aK z]at e;exact x.new _ _ e
  ·rw[aK (EO b hb)];exact(f2 b hb).1
  ·unfold jk qy;simp
 exact codeAny_compStart_list (yK _ rfl) (T.self _ 0 _ _ _ (T.keep _ _ _ v5 λb hb o e=>G _ _ (vF _ _ e)) (yK _ rfl))
def u0 (G:X.calm=true) 
  (S:CompSc X scope cl) (cp:ij X N' scope cl nT cap) (hi:JI X tg du fi)
  (hg:∀C s H fp,PG (eG X N' scope cl C s H fp) tg g) (U:wj X.K nT js g) (hc:∀C s H fp,JC (eG X N' scope cl C s H fp) oN fc) (he:∀C s H fp,JE (eG X N' scope cl C s H fp) lQ fe)
  (hs:∀x,foldedSetIterable du X.env x=pure x:=by intro _;rfl):
  JE X (.ListComp lQ [⟨tg,du,oN,0⟩] scope pos) (bC fi nT cap js fc fe):=by
 intro ac s σ H Q I h;obtain⟨B,ρ,d,b,sB,rep,e,q⟩:=h;obtain⟨items,ei,e⟩:=oX e;have O:items.length<=sizeLine:=Decidable.byContradiction λz=>by rw[if_neg z]at e;cases e
 rw[if_pos O]at e;obtain⟨ds,ec,e⟩:=oY e;cases e
 rw[eval_ListComp];refine wpAny_comprehension_free (use:=none) rfl hs S.clos S.kind S.names (bV (hi ac s σ H (λJ H2=>∃N1,Ext B N1 H H2/\kl X.K J N1 items) I ⟨B,ρ,items,sB,rep,ei,λJ H2 N1 M j1=>⟨N1,M,j1⟩⟩) λv s1 h1=>bV h1 λD3 s2 h2=>?_);obtain⟨it,fp,tn,J,H2,e,I2,T,v5,f2,N1,M,j1⟩:=h2;subst e;refine j8 G S cp hg U hc he I2 T v5 f2 (rep.mono M.bn) M.nh j1 O ec (RR:=λv7 C=>compPost (model X.prog X.w) X.A X.xe none (EP X ac σ Q) v7 C) ?_;intro Dd C s' H' N vs m hD I' hm fC x hN hl;refine⟨m,hm,λh' hs'=>⟨.ref Dd,H',?_,rfl,q _ H' N (M.trans x) (.lst (fz.of hN) hl) λ_=>⟨Dd,vs,ds,rfl,rfl,M.hh.free hD,hN,hl⟩⟩⟩;obtain⟨c0,c1,c2,c3,c4,c5⟩:=fC;exact I'.turned (t':=s'.toks) (λb o hb e=>(hs'.2 b hb).trans e) c0 c1 c3 c4 c5
def u3 (M:X.calm=true) 
  (hN:X.N.Nodup) (ER:X.N[i]? = some y) (hy:X.env.kindOf y=some .local)
  (ES:swapsWith (.ListComp lQ [⟨tg,G,O,0⟩] scope pos) (some (.Name y py)) spos.line X.env=pure true)
  (S:CompSc X scope cl) (cp:ij X N' scope cl nT cap) (hi:JI X tg G fi)
  (hg:∀C s H fp,PG (eG X N' scope cl C s H fp) tg g) (Bd:wj X.K nT js g) (hc:∀C s H fp,JC (eG X N' scope cl C s H fp) O fc) (he:∀C s H fp,JE (eG X N' scope cl C s H fp) lQ fe)
  (hs:∀x,foldedSetIterable G X.env x=pure x:=by intro _;rfl):
  JS X (.Assign [.Name y py] (.ListComp lQ [⟨tg,G,O,0⟩] scope pos) spos) (ba i (bC fi nT cap js fc fe)):=by
 intro ac s σ H E I h;have h2:qi (tD X.K (bC fi nT cap js fc fe)) (gu i) E σ H:=pj h;obtain⟨B,ρ,d,b,sB,rep,e,q⟩:=h2;obtain⟨items,ei,e⟩:=oX e;have tP:items.length<=sizeLine:=Decidable.byContradiction λz=>by rw[if_neg z]at e;cases e
 rw[if_pos tP]at e;obtain⟨ds,ec,e⟩:=oY e;cases e
 rw[exec_Assign_Name_used _ _ _ _ ES];refine wX (wpAny_standAt (wX ?_));show wpAny _ _ (do let _ ←comprehension (.ListComp lQ [⟨tg,G,O,0⟩] scope pos) scope X.env _ (newList []) false (eval G X.env) (some (assign (.Name y py) X.env))) _ _ s;refine wX (wpAny_mono (wpAny_comprehension_free (use:=some (assign (.Name y py) X.env)) (Q:=λ_ U=>SP X ac E .next U) rfl hs S.clos S.kind S.names
  (bV (hi ac s σ H (λJ H2=>∃N1,Ext B N1 H H2/\kl X.K J N1 items) I ⟨B,ρ,items,sB,rep,ei,λJ H2 N1 x1 j1=>⟨N1,x1,j1⟩⟩) λv s1 h1=>bV h1 λD3 s2 h2=>?_)) (λ_ U hq=>wY (wY hq)) λ_ _ e=>e)
 obtain⟨it,fp,tn,J,H2,e,I2,T,v5,f2,N1,x1,j1⟩:=h2;subst e;refine j8 M S cp hg Bd hc he I2 T v5 f2 (rep.mono x1.bn) x1.nh j1 tP ec (RR:=λv7 C=>compPost (model X.prog X.w) X.A X.xe (some (assign (.Name y py) X.env)) (λ_ U=>SP X ac E .next U) v7 C) ?_;intro Dd C U H' N vs m hD I' hm fC x DH hl;show wpAny _ _ (assign (.Name y py) X.env (.ref Dd)) _ _ U;obtain⟨c0,c1,c2,c3,c4,c5⟩:=fC;refine wpAny_assign_Name (kr I' hN ER (.inl hy) (r:=show aT (.ref Dd) (.ref Dd)from rfl) (λs9 I9 ⟨a,sb,ha⟩=>?_) (.inr hy));have nC:C≠a:=by
  rcases ha with z|z
  ·rw[z];exact c1
  ·exact λw=>c4 y a z w.symm
 refine⟨m,hm.sameBut sb nC,λh' hs'=>⟨_,H',?_,q _ H' N (x1.trans x) (.lst (fz.of DH) hl) λ_=>⟨Dd,vs,ds,rfl,rfl,x1.hh.free hD,DH,hl⟩⟩⟩;exact I9.turned (t':=s9.toks) (λb o hb e=>(hs'.2 b hb).trans e) c0 c1 c3 c4 c5
section
variable {X:Cx}{a b c e:Expr}{pos:Pos}
def PE.to (h:PE X e t)(k:∀σ H Q,t' σ H Q->t σ H Q):PE X e t':=λac s σ H Q I q=>h ac s σ H Q I (k σ H Q q)
def PT.to (h:PT X e t)(k:∀σ H Q,t' σ H Q->t σ H Q):PT X e t':=λac s σ H Q I q=>h ac s σ H Q I (k σ H Q q)
def PW.to (h:PW X e t)(k:∀σ H Q,t' σ H Q->t σ H Q):PW X e t':=λG ac s σ H Q I q=>h G ac s σ H Q I (k σ H Q q)
def PA.to (h:PA X es t)(k:∀σ H Q,t' σ H Q->t σ H Q):PA X es t':=λpos ac s σ H Q I q=>h pos ac s σ H Q I (k σ H Q q)
def PS.to {st:Stmt}{t t':TS}(h:PS X st t)(k:∀E σ H,t' E σ H->t E σ H):PS X st t':=λac s σ H E I q=>h ac s σ H E I (k E σ H q)
def lr.to {st:List Stmt}{t t':TS}(h:lr X st t)(k:∀E σ H,t' E σ H->t E σ H):lr X st t':=λac s σ H E I q=>h ac s σ H E I (k E σ H q)
def PI.to (h:PI X tg it t)(k:∀σ H Q,t' σ H Q->t σ H Q):PI X tg it t':=λac s σ H Q I q=>h ac s σ H Q I (k σ H Q q)
def q0 {K:Frag}{d:D}{v:V}(i:∀B,Is K B v d){σ:St}{H:Hp}{Q:VK}(h:tD K (fC d) σ H Q):tC v σ H Q:=by
 obtain⟨B,ρ,d',b,s,r,e,q⟩:=h;cases e
 exact q.one s (i B)
def pv (M:X.N[i]? = some x:=by rfl)(O:zj X.env.scope x:=by first|exact Or.inl rfl|exact Or.inr (Or.inl rfl)|exact Or.inr (Or.inr rfl))(hd:(x == ("__debug__" : Str))=false:=by decide)
  (G:(x == ("__classdict__" : Str))=false:=by decide):PE X (.Name x pos) (lW i):=ls M O hd G
def ai (i:Nat)(G:PE X (.Name x pos) (lW i):=by exact pv):JE X (.Name x pos) (ak i):=PE.to G λ_ _ _ h=>xC h
def al:JE X (.Constant (.int i) j pos) (fC (.int i)):=PE.to wJ λ_ _ _ h=>q0 (λ_=>.int i) h
def bO:JE X (.Constant (.bool i) j pos) (fC (.bl i)):=PE.to zk λ_ _ _ h=>q0 (λ_=>.bl i) h
def eI:JE X (.Constant .none j pos) (fC .non):=PE.to wK λ_ _ _ h=>q0 (λ_=>.non) h
def au:JE X (.Constant (.str x) j pos) (fC (.str x)):=PE.to wL λ_ _ _ h=>q0 (λ_=>.str x) h
def u4 (G:Gl X x)(hm:X.mg x=some u)(r:aT v u)(i:∀B,Is X.K B v d)(hd:(x == ("__debug__" : Str))=false:=by decide):JE X (.Name x pos) (fC d):=PE.to (jp G hm r hd) λ_ _ _ h=>q0 i h
def a0 (G:cF X (binaryOp op) (rD X.K f))(ha:JE X a fa)(hb:JE X b fb):JE X (.BinOp a op b pos) (f2 f fa fb):=PE.to (z8 G ha hb) λ_ _ _ h=>uq h
def Ab (G:z6 X (unaryOp op) (BZ X.K f))(ha:JE X a fa):JE X (.UnaryOp op a pos) (f1 f fa):=PE.to (z9 G ha) λ_ _ _ h=>Ca h
def cR (M:cF X (compareOp G) (rD X.K f))(ha:JE X a O)(hb:JE X b T)(hm:behindInMarks G b=false:=by first|exact jx _ (by decide) (by decide)|rfl):JE X (.Compare a [G] [b] pos) (f2 f O T):=PE.to (ua M ha hb hm) λ_ _ _ h=>uq h
def lC {K:Frag}{f:FE}{σ:St}{H:Hp}{Q:Bool->Hp->Prop}(h:qw K (aO f) σ H Q):tD K f σ H λx H'=>∃k,x=.bl k/\Q k H':=by
 obtain⟨B,ρ,c,s,r,e,q⟩:=h;unfold aO at e;split at e
 ·rename_i O G M;cases e
  refine⟨B,ρ,.bl c,G,s,r,M,λv H' N x i _=>?_⟩;cases i
  exact⟨c,rfl,q H' x.hh⟩
 ·cases e
def a8 (G:cF X (compareOp op) (rD X.K f))(ha:JE X a fa)(hb:JE X b fb)(hm:behindInMarks op b=false:=by first|exact jx _ (by decide) (by decide)|rfl):JT X (.Compare a [op] [b] pos) (aO (f2 f fa fb)) :=
 PT.to (oR G ha hb hm) λ_ _ _ h=>uq (lC h)
def bt (h:JE X e f)(he:∀G,isTrue e X.env G=(do let v ←G;standAt e.pos;holding [v] (truthy v)):=by intro _;rfl):JT X e (aO f):=PT.to (wM h he) λ_ _ _ q=>lC q
@[simp] noncomputable def cS (f g:D->D->OB)(G M O:FE):FE:=λρ=>(G ρ).bind λx=>(M ρ).bind λy=>match f x.1 y.1 with
 |some (.bl true,_)=>(O ρ).bind λz=>g y.1 z.1
 |some (.bl false,_)=>some (.bl false,false)
 |_=>none
def mo {K:Frag}{f g:D->D->OB}{fa fb fc:FE}{σ:St}{H:Hp}{Q:VK}(h:tD K (cS f g fa fb fc) σ H Q):nF (rD K f) (rD K g) (tD K fa) (tD K fb) (tD K fc) σ H Q:=by
 obtain⟨B,ρ,d,b,s,r,e,q⟩:=h;obtain⟨x,ex,e⟩:=oX e;obtain⟨y,ey,e⟩:=oX e;refine⟨B,ρ,x.1,x.2,s,r,ex,λv H1 N1 O i1 _=>⟨N1,ρ,y.1,y.2,O.nh,r.mono O.bn,ey,λv2 H2 N2 G i2 _=>?_⟩⟩;split at e
 ·rename_i T U;obtain⟨z,ez,e⟩:=oX e;refine⟨N2,x.1,y.1,.bl true,T,G.nh,i1.mono G.bn,i2,U,λv3 H3 N3 M i3 _=>?_⟩;cases i3
  refine⟨true,rfl,?_⟩;rw[if_pos rfl];refine⟨N3,ρ,z.1,z.2,M.nh,r.mono (O.bn.trans (G.bn.trans M.bn)),ez,λv4 H4 N4 x4 i4 _=>⟨N4,y.1,z.1,d,b,x4.nh,i2.mono (M.bn.trans x4.bn),i4,e,?_⟩⟩;exact q.into ((O.trans G).trans (M.trans x4))
 ·rename_i T U;cases e
  refine⟨N2,x.1,y.1,.bl false,T,G.nh,i1.mono G.bn,i2,U,λv3 H3 N3 M i3 _=>?_⟩;cases i3
  refine⟨false,rfl,?_⟩;rw[if_neg (by decide)];exact(q.into ((O.trans G).trans M)).one M.nh (.bl false)
 ·cases e
def mq (M:cF X (compareOp op) (rD X.K f))(G:cF X (compareOp Bk) (rD X.K g))(ha:JE X a fa)(hb:JE X b fb)(hc:JE X c fc)
  (hm:lastMarks [op,Bk] [b,c]=false:=by with_unfolding_all rfl):JE X (.Compare a [op,Bk] [b,c] pos) (cS f g fa fb fc):=PE.to (rd M G ha hb hc hm) λ_ _ _ h=>mo h
def j9 (M:cF X (compareOp op) (rD X.K f))(G:cF X (compareOp Bk) (rD X.K g))(ha:JE X a fa)(hb:JE X b fb)(hc:JE X c fc)
  (hm:lastMarks [op,Bk] [b,c]=false:=by with_unfolding_all rfl):JT X (.Compare a [op,Bk] [b,c] pos) (aO (cS f g fa fb fc)):=PT.to (re M G ha hb hc hm) λ_ _ _ h=>mo (lC h)
def u5 {K:Frag}{f g:FT}{σ:St}{H:Hp}{Q:Bool->Hp->Prop}(h:qw K (gR f g) σ H Q):zl (qw K f) (qw K g) σ H Q:=by
 obtain⟨B,ρ,c,s,r,e,q⟩:=h;unfold gR at e;cases G:f ρ with
 |none=>rw[G]at e;cases e
 |some k=>
  rw[G]at e;refine⟨B,ρ,k,s,r,G,λM h1=>?_⟩;cases k with
  |true=>rw[if_pos rfl];exact⟨B,ρ,c,s.trans h1,r,e,λH2 h2=>q H2 (h1.trans h2)⟩
  |false=>rw[if_neg (by decide)];cases e;exact q M h1
def xG {K:Frag}{f g:FT}{σ:St}{H:Hp}{Q:Bool->Hp->Prop}(h:qw K (b7 f g) σ H Q):Dc (qw K f) (qw K g) σ H Q:=by
 obtain⟨B,ρ,c,s,r,e,q⟩:=h;unfold b7 at e;cases G:f ρ with
 |none=>rw[G]at e;cases e
 |some k=>
  rw[G]at e;refine⟨B,ρ,k,s,r,G,λM h1=>?_⟩;cases k with
  |false=>rw[if_neg (by decide)];exact⟨B,ρ,c,s.trans h1,r,e,λH2 h2=>q H2 (h1.trans h2)⟩
  |true=>rw[if_pos rfl];cases e;exact q M h1
def u6 {K:Frag}{f:FT}{σ:St}{H:Hp}{Q:Bool->Hp->Prop}(h:qw K (aN f) σ H Q):zm (qw K f) σ H Q:=by
 obtain⟨B,ρ,c,s,r,e,q⟩:=h;obtain⟨k,G,e⟩:=oY e;subst e;exact⟨B,ρ,k,s,r,G,λM h1=>q M h1⟩
variable {aW:QD}
def pq (ha:JT X a f):JW X (.BoolOp .And [a] pos) f:=tT ha
def cm (ha:JT X a f):JW X (.BoolOp .Or [a] pos) f:=wN ha
def rP (ha:JT X a f)(hb:JW X (.BoolOp .And (b::aW) pos) g):JW X (.BoolOp .And (a::b::aW) pos) (gR f g):=PW.to (wO ha hb) λ_ _ _ h=>u5 h
def bY (ha:JT X a f)(hb:JW X (.BoolOp .Or (b::aW) pos) g):JW X (.BoolOp .Or (a::b::aW) pos) (b7 f g):=PW.to (zn ha hb) λ_ _ _ h=>xG h
def eD (h:JW X e f):JT X e f:=h.pt
def bo (ha:JT X a f):JT X (.UnaryOp .Not a pos) (aN f):=PT.to (wP ha) λ_ _ _ h=>u6 h
@[simp] noncomputable def gT (f g:FE):FE:=λρ=>match f ρ with|some (.bl true,_)=>g ρ|some (.bl false,_)=>some (.bl false,false)|_=>none
@[simp] noncomputable def wk (f g:FE):FE:=λρ=>match f ρ with|some (.bl true,_)=>some (.bl true,false)|some (.bl false,_)=>g ρ|_=>none
@[simp] noncomputable def xH (f:FE):FE:=λρ=>match f ρ with|some (.bl c,_)=>some (.bl (!c),false)|_=>none
def eJ (ha:JE X a f)(hb:JE X (.BoolOp .And (b::aW) pos) g):JE X (.BoolOp .And (a::b::aW) pos) (gT f g):=PE.to (wR ha hb) λσ H Q h=>by
 obtain⟨B,ρ,d,k,s,r,e,q⟩:=h;unfold gT at e;split at e
 ·rename_i O M;refine⟨B,ρ,_,_,s,r,M,λv T N1 G i1 _=>?_⟩;cases i1
  refine⟨true,rfl,?_⟩;rw[if_pos rfl];exact⟨N1,ρ,d,k,G.nh,r.mono G.bn,e,q.into G⟩
 ·rename_i O M;cases e
  refine⟨B,ρ,_,_,s,r,M,λv T N1 G i1 _=>?_⟩;cases i1
  refine⟨false,rfl,?_⟩;rw[if_neg (by decide)];exact(q.into G).one G.nh (.bl false)
 ·cases e
def pr (ha:JE X a f)(hb:JE X (.BoolOp .Or (b::aW) pos) g):JE X (.BoolOp .Or (a::b::aW) pos) (wk f g):=PE.to (zq ha hb) λσ H Q h=>by
 obtain⟨B,ρ,d,k,s,r,e,q⟩:=h;unfold wk at e;split at e
 ·rename_i O M;cases e
  refine⟨B,ρ,_,_,s,r,M,λv T N1 G i1 _=>?_⟩;cases i1
  refine⟨true,rfl,?_⟩;rw[if_pos rfl];exact(q.into G).one G.nh (.bl true)
 ·rename_i O M;refine⟨B,ρ,_,_,s,r,M,λv T N1 G i1 _=>?_⟩;cases i1
  refine⟨false,rfl,?_⟩;rw[if_neg (by decide)];exact⟨N1,ρ,d,k,G.nh,r.mono G.bn,e,q.into G⟩
 ·cases e
def dY (h:JE X a f):JE X (.BoolOp op [a] pos) f:=wQ h
def xI (ha:JE X a f):JE X (.UnaryOp .Not a pos) (xH f):=PE.to (wS ha) λσ H Q h=>by
 obtain⟨B,ρ,d,k,s,r,e,q⟩:=h;unfold xH at e;split at e
 ·rename_i c O M;cases e
  refine⟨B,ρ,_,_,s,r,M,λv T N1 G i1 _=>?_⟩;cases i1
  exact⟨c,rfl,(q.into G).one G.nh (.bl _)⟩
 ·cases e
variable {es:QD}
def ah:JA X [] ag:=PA.to jy λ_ _ _ h=>ut h
def af (ha:JE X e f)(hr:JA X es g)(hs:starEach (e::es) X.env=(false,eval e X.env)::starEach es X.env:=by rfl):JA X (e::es) (aa f g):=PA.to (gi ha hr hs) λ_ _ _ h=>rH h
@[simp] noncomputable def aE:LD->OB:=λds=>if ds.length<=sizeLine then some (.tup ds,false)else none
@[simp] noncomputable def b9:LD->OB:=λds=>if ds.length<=sizeLine then some (.lst ds,true)else none
def aV {M}(h:JA X es f):JE X (.Tuple es M pos) (fA aE f):=PE.to (xl h) λσ H Q q=>by
 obtain⟨B,ρ,ds,s,r,e,k⟩:=ur q;refine⟨B,ρ,ds,s,r,e,λvs O N1 M i1=>?_⟩;obtain⟨T,U,d,b,s2,i2,G,k2⟩:=k vs O N1 M i1;unfold aE at G;split at G
 ·rename_i hz;cases G
  refine⟨by rw[i2.length];exact hz,λp hp=>k2 _ _ (upd T p (.tup vs)) (.laid s2 hp) (.tup (eS.of aM) (i2.mono (Ext.laid s2 hp).bn)) (by simp)⟩
 ·cases G
def cf (h:JA X es f):JE X (.List es pos) (fA b9 f):=PE.to (xm h) λσ H Q q=>by
 obtain⟨B,ρ,ds,s,r,e,k⟩:=ur q;refine⟨B,ρ,ds,s,r,e,λvs O N1 T i1=>?_⟩;obtain⟨U,M,d,b,s2,i2,G,k2⟩:=k vs O N1 T i1;unfold b9 at G;split at G
 ·rename_i hz;cases G
  refine⟨by rw[i2.length];exact hz,λp hp=>k2 _ _ (upd U p (.lst vs)) (.laid s2 hp) (.lst (fz.of aM) (i2.mono (Ext.laid s2 hp).bn)) λ_=>⟨p,vs,M,rfl,rfl,hp,aM,i2.mono (Ext.laid s2 hp).bn⟩⟩
 ·cases G
end
section
variable {X:Cx}
def fP (h:cF X f r)(k:∀x y H Q,r' x y H Q->r x y H Q):cF X f r':=λac s σ H x y v u Q I G M q=>h ac s σ H x y v u Q I G M (k x y H Q q)
noncomputable def tN (f g:D->D->OB):D->D->OB:=λx y=>match f x y with|some r=>some r|none=>g x y
def jA (h:cF X s (rD X.K f))(h':cF X s (rD X.K g)):cF X s (rD X.K (tN f g)):=by
 intro ac st σ H x y v u Q I G M q;obtain⟨B,dx,O,d,b,T,U,iy,e,q⟩:=q;unfold tN at e;split at e
 ·rename_i r ef;cases e
  exact h ac st σ H x y v u Q I G M ⟨B,dx,O,_,_,T,U,iy,ef,q⟩
 ·exact h' ac st σ H x y v u Q I G M ⟨B,dx,O,_,_,T,U,iy,e,q⟩
@[simp] noncomputable def nS (C:Int->Int->Bool)(g:Int->Int->D):D->D->OB
 |.int i,.int j=>if C i j=true then some (g i j,false)else none
 |_,_=>none
def jr (h:cF X s (rI C g))(G:∀i j,C' i j=true->C i j)(M:∀i j B,Is X.K B (g i j) (g' i j)):cF X s (rD X.K (nS C' g')):=by
 refine fP h λx y H Q q=>?_;obtain⟨B,dx,dy,d,b,O,T,U,e,q⟩:=q;cases T<;>try (cases e;done)
 cases U<;>try (cases e;done)
 rename_i i j;simp only[nS]at e;split at e
 ·rename_i hc;cases e
  exact⟨i,j,rfl,rfl,G i j hc,q.one O (M i j B)⟩
 ·cases e
def fQ (h:cF X s (vO g))(G:∀i j B,Is X.K B (g i j) (g' i j)):cF X s (rD X.K (nS (λ_ _=>true) g')):=by
 refine fP h λx y H Q q=>?_;obtain⟨B,dx,U,d,b,M,O,T,e,q⟩:=q;cases O<;>try (cases e;done)
 cases T<;>try (cases e;done)
 rename_i i j;simp only[nS,if_true]at e;cases e
 exact⟨i,j,rfl,rfl,q.one M (G i j B)⟩
abbrev xJ:D->D->OB:=nS (λ_ _=>true) λi j=>.int (i+j)
abbrev lD:D->D->OB:=nS (λ_ _=>true) λi j=>.int (i - j)
abbrev Ac:D->D->OB:=nS (λi j=>decide ((-18446744073709551616<i/\i<18446744073709551616)∨(-18446744073709551616<j/\j<18446744073709551616))) λi j=>.int (i*j)
abbrev cT:D->D->OB:=nS (λ_ j=>decide (0<j/\j<1073741824)) λi j=>.int (i / j)
abbrev bc:D->D->OB:=nS (λ_ j=>decide (0<j)) λi j=>.int (i % j)
abbrev Ad:D->D->OB:=nS (λi j=>decide (0<=j/\j<=1000000/\i.natAbs<18446744073709551616)) λi j=>.int (i ^ j.toNat)
abbrev Dp:D->D->OB:=nS (λ_ _=>true) λi j=>.bl (decide (i<j))
abbrev Cb:D->D->OB:=nS (λ_ _=>true) λi j=>.bl (decide (i<=j))
abbrev rQ:D->D->OB:=nS (λ_ _=>true) λi j=>.bl (decide (j<i))
def Ae:cF X (binaryOp .Add) (rD X.K xJ):=fQ xc λ_ _ _=>.int _
def mr:cF X (binaryOp .Sub) (rD X.K lD):=fQ xf λ_ _ _=>.int _
def Af:cF X (binaryOp .Mult) (rD X.K Ac):=jr xg (λi j h=>by have h:=of_decide_eq_true h;unfold tY;omega) λ_ _ _=>.int _
def cY:cF X (binaryOp .FloorDiv) (rD X.K cT):=jr tZ (λi j h=>by have h:=of_decide_eq_true h;unfold zG;omega) λ_ _ _=>.int _
def bw:cF X (binaryOp .Mod) (rD X.K bc):=jr xh (λ_ _ h=>of_decide_eq_true h) λ_ _ _=>.int _
def Ag:cF X (binaryOp .Pow) (rD X.K Ad):=jr xi (λi j h=>by have h:=of_decide_eq_true h;unfold zH;omega) λ_ _ _=>.int _
def Cc:cF X (compareOp .Lt) (rD X.K Dp):=fQ zI λ_ _ _=>.bl _
def Cd:cF X (compareOp .LtE) (rD X.K Cb):=fQ zJ λ_ _ _=>.bl _
def u7:cF X (compareOp .Gt) (rD X.K rQ):=fQ zK λ_ _ _=>.bl _
@[simp] noncomputable def yY (C:Str->Str->Bool)(g:Str->Str->D):D->D->OB
 |.str i,.str j=>if C i j=true then some (g i j,false)else none
 |_,_=>none
abbrev u8:D->D->OB:=yY (λi j=>decide (i.length+j.length<=sizeLine)) λi j=>.str (i++j)
abbrev Bz:D->D->OB:=yY (λ_ _=>true) λi j=>.bl (!decide (j.cps.toList<i.cps.toList))
def xK:cF X (binaryOp .Add) (rD X.K u8):=by
 refine fP nG λx y H Q q=>?_;obtain⟨B,dx,T,d,b,G,M,O,e,q⟩:=q;cases M<;>try (cases e;done)
 cases O<;>try (cases e;done)
 rename_i i j;simp only[u8,yY]at e;split at e
 ·rename_i hc;cases e
  exact⟨i,j,rfl,rfl,of_decide_eq_true hc,q.one G (.str _)⟩
 ·cases e
def Ah:cF X (compareOp .LtE) (rD X.K Bz):=by
 intro ac s σ H x y v u Q I G M q;obtain⟨B,dx,dy,d,b,O,T,U,e,q⟩:=q;cases T<;>try (cases e;done)
 cases U<;>try (cases e;done)
 rename_i i j;simp only[Bz,yY,if_true]at e;cases e
 obtain⟨t,rfl⟩:=G;obtain⟨t',rfl⟩:=M;exact PySem.P.le_str ⟨.bl _,H,I,rfl,q.one O (.bl _)⟩
end
section
variable {X:Cx}{a b c e:Expr}{pos:Pos}{st:Stmt}{aW:List Stmt}
def ir:lA X [] aA:=lr.to tU λ_ _ _ h=>rK h
def aj (h1:JS X st g)(h2:lA X aW h):lA X (st::aW) (ay g h):=lr.to (qV h1 h2) λ_ _ _ q=>uu q
def cZ (h1:JS X st g):lA X [st] g:=tV h1
def iS {c:Expr}{a b:List Stmt}{G:FT}{g h:FS}(hc:JT X c G)(ha:lA X a g)(hb:lA X b h):JS X (.If c a b pos) (bU G g h):=PS.to (zv hc ha hb) λ_ _ _ q=>xD q
def rR (he:JE X e f):JS X (.Return (some e) pos) (aD f):=PS.to (qW he) λ_ _ _ q=>uv q
def u9 (i:Nat)(G:PE X (.Name x p) (lW i):=by exact pv):JS X (.Return (some (.Name x p)) pos) (j5 i):=PS.to (qW G) λ_ _ _ q=>rL q
def aR (G:X.N.Nodup)(he:JE X e f)(hi:X.N[i]? = some x:=by rfl)(hx:vG X.env.scope x:=by first|exact Or.inl rfl|exact Or.inr rfl)(hs:swapsWith e (some (.Name x p)) pos.line X.env=pure false:=by rfl)
  (M:X.fn x=true∨X.env.scope.names.lookup x=some .local:=by first|exact .inl rfl|exact .inr rfl):JS X (.Assign [.Name x p] e pos) (ba i f):=PS.to (qZ G hi hx he hs M) λ_ _ _ q=>pj q
def xL (hp:PassesOwn (model X.prog X.w) X.A X.env X.xe)(hc:X.calm=true)(hi:JI X tg du fi)(G:PG X tg t)(M:wh X.K js t)(hb:lA X body g)
  (hs:∀x,foldedSetIterable du X.env x=pure x:=by intro _;rfl):JS X (.For tg du body [] pos) (nP fi js g):=PS.to (rb hp hc hi G hb hs) λ_ _ _ q=>ux M q
def uA (hp:PassesOwn (model X.prog X.w) X.A X.env X.xe)(hc:X.calm=true)(hi:PI X tg du (By X.K fi))(G:PG X tg t)(M:wh X.K js t)(hb:lA X body g)
  (hs:∀x,foldedSetIterable du X.env x=pure x:=by intro _;rfl):JS X (.For tg du body [] pos) (iR fi js g):=PS.to (rb hp hc hi G hb hs) λ_ _ _ q=>rO M q
def rS (he:JE X e f)(U:PE X (.Name x p) (lW i):=by exact pv)
  (G:attributeBase (.Name x p) "append" X.env (eval (.Name x p) X.env)=eval (.Name x p) X.env:=by rfl)
  (O:((backTo cz (starEach [e] X.env)).all (λx=>!x.1) && (backToKw cz (keywordEach [] X.env)).all (λx=>x.1.isSome)
   && decide ([e].length+([]:List Keyword).length+(if([]:List Keyword).isEmpty then 0 else 1)<30))=true:=by rfl)
  (M:(dQ.endLine == cz.line)=true:=by rfl) (hs:starEach [e] X.env=[(false,eval e X.env)]:=by rfl) (T:swapsWith (.Call (.Attribute (.Name x p) "append" dQ) [e] [] cz) none pos.line X.env=pure false:=by rfl):
  JS X (.Expr (.Call (.Attribute (.Name x p) "append" dQ) [e] [] cz) pos) (l8 i f):=by
 refine PS.to (tW (r6 PySem.F.plainAttrs_list PySem.F.slot_list_append PySem.F.type_list_append kB U (gi he jy hs) G O M hs rfl) T) λE σ H q=>?_;obtain⟨a,us,h1,h2,k⟩:=uw q;exact⟨_,h1,.inl ⟨rfl,us,fz.of h2⟩,k⟩
end
@[simp] noncomputable def aY (g:FS)(n k:Nat):LD->OB:=λds=>if ds.length=n then
 match g (ds.map (λd=>some (d,false))++List.replicate k none) with
 |some (.rt d b)=>some (d,b)
 |some (.nx _)=>some (.non,false)
 |_=>none
 else none
def wl (K:Frag)(f:LD->OB):Sp:=λvs H Q _=>∃(B:Hp)(ds:LD)(d:D)(b:Bool),(aQ B H/\Tb K B)/\IsL K B vs ds/\f ds=some (d,b)/\Fin K B H d b Q
def ms {K:Frag}{B H:Hp}{vs:LV}{ds:LD}{N:LS}(M:aQ B H)(tb:Tb K B)(i:IsL K B vs ds):cN K B H B H (L2.fM N vs) (ds.map (λd=>some (d,false))++List.replicate (N.length - vs.length) none):=by
 have G:∀(j:Nat)(d:D)(b:Bool),(ds.map (λd=>some (d,false))++List.replicate (N.length - vs.length) none:Env)[j]? = some (some (d,b))->b=false/\ds[j]? = some d:=λj d b e=>by
  by_cases hj:j<ds.length
  ·rw[getElem?_append_left (by simpa using hj),vB]at e;obtain⟨d',h1,h2⟩:=oY e;cases h2
   exact⟨rfl,h1⟩
  ·rw[List.getElem?_append_right (by simpa using not_lt.mp hj),getElem?_replicate]at e;split at e<;>cases e
 have O:∀a,¬own (L2.fM N vs) (ds.map (λd=>some (d,false))++List.replicate (N.length - vs.length) none) a:=λa ⟨j,d,h,_⟩=>by
  obtain⟨z,_⟩:=G j d true h;cases z
 refine⟨M,tb,.refl M,?_,λj d e=>?_,λj d e=>?_,λj k a d e h=>?_⟩
 ·unfold L2.fM;rw[vA,vA,vI,vI,length_replicate,length_replicate,i.length]
 ·obtain⟨_,T⟩:=G j d false e;obtain⟨v,h1,h2⟩:=i.get T;refine⟨v,?_,h2.mono λa o e=>by rw[ce (O a)];exact e⟩;unfold L2.fM;have hj:j<vs.length:=(vV h1).1;rw[getElem?_append_left (by simpa using hj),vB,h1]<;>rfl
 ·obtain⟨z,_⟩:=G j d true e;cases z
 ·obtain⟨z,_⟩:=G j d true h;cases z
section
variable {P:Program}{w:World}{K:Frag}{mg:SV}{base:Heap}
def Ai {x qual:Str}{st:Stmt}{f:Addr}{fd:FuncData}{N ps:LS}{k:Nat}{g:FS}(F:yN K x qual st f fd)(S:FnScope N ps (aG st))
  (hb:∀(cL:Value)(A:Around)(outer:List PySem.Env)(s:Shared)(H:Hp)(E:XK),dH k (A.deeper (envOfC qual (aG st) s.heap.objs.size f cL))->lA (jh nM P w K mg base N qual (aG st) f cL A outer s H E).nox (bX st) g):
  iN P w K mg base nM (k+1) f fd ps (wl K (aY g ps.length (N.length - ps.length))):=by
 have len:∀vs H Q E,wl K (aY g ps.length (N.length - ps.length)) vs H Q E->vs.length=ps.length:=λvs H Q E h=>by
  obtain⟨B,ds,d,b,M,i,e,q⟩:=h;unfold aY at e;split at e
  ·rename_i hl;rw[i.length];exact hl
  ·cases e
 refine F.ok S len λcL A outer s H vs Q E hr h=>⟨_,hb cL A outer s H E hr,?_⟩;have G:=len vs H Q E h;obtain⟨B,ds,d,b,M,i,e,q⟩:=h;unfold aY at e;rw[if_pos (by rw[←i.length];exact G)]at e;have O:=ms (N:=N) M.1 M.2 i;rw[G]at O;split at e
 ·rename_i d' b' T;cases e
  exact⟨B,H,_,_,⟨B,O⟩,T,λv H' N' U i' f'=>q v H' N' U i' f'⟩
 ·rename_i ρ' T;cases e
  exact⟨B,H,_,_,⟨B,O⟩,T,λσ' H' ⟨N',s'⟩=>q .non H' N' s'.ext .non (by simp)⟩
 ·cases e
structure Fn (P:Program)(w:World)(K:Frag)(mg:Str->Option Value)(base:Heap)(k:Nat)(x:Str)(f:List D->OB):Prop where
 ex:∃(ad:Addr)(fd:FuncData)(ps:List Str),iN P w K mg base nM k ad fd ps (wl K f)/\mg x=some (.ref ad)/\PySem.W.keepIn K (.ref ad)=true/\kx K fd ps []
def Fn.mono (F:Fn P w K mg base j x f)(h:j<=k):Fn P w K mg base k x f:=by
 obtain⟨ad,fd,ps,G,h2⟩:=F.ex;exact⟨ad,fd,ps,G.mono h,h2⟩
end
def pw (F:Fn X.prog X.w X.K X.mg X.base k x f)(hr:dH k X.A)(ha:JA X (e::es) fa)(T:Gl X x:=by rfl)
  (G:(x == ("__debug__" : Str))=false:=by decide) (he:starEach (e::es) X.env=(false,eval e X.env)::starEach es X.env:=by rfl) (M:(backTo pos (starEach es X.env)).any (·.1)=false:=by rfl):
  JE X (.Call (.Name x p) (e::es) [] pos) (fA f fa):=by
 obtain⟨ad,fd,ps,U,hm,hk,hb⟩:=F.ex;refine PE.to (oV U hr T hm hk hb .nil wb ha G he M) λσ H Q q=>?_;obtain⟨B,ρ,d,b,s,r,e,q⟩:=q;obtain⟨ds,ex,e⟩:=oX e;exact⟨B,ρ,ds,s,r,ex,λvs H1 N1 O i1=>by
  show wl X.K f (vs++[]) H1 Q _;rw[append_nil];exact⟨N1,ds,d,b,⟨O.nh,r.tb.mono O.bn⟩,i1,e,q.into O⟩⟩
mutual
@[simp] def cM:D->D->Bool
 |.non,.non=>true
 |.bl a,.bl b=>a == b
 |.bl a,.int b=>decide ((if a then 1 else 0)=b)
 |.int a,.bl b=>decide (a=(if b then 1 else 0))
 |.int a,.int b=>decide (a=b)
 |.str a,.str b=>decide (a=b)
 |.tup xs,.tup ys=>gA xs ys
 |.lst xs,.lst ys=>gA xs ys
 |_,_=>false
@[simp] def gA:LD->LD->Bool
 |[],[]=>true
 |x::xs,y::ys=>cM x y && gA xs ys
 |_,_=>false
end
@[simp] def mu (a:Str)(b:Str):cM (.str a) (.str b)=decide (a=b):=by simp only[cM]
@[simp] noncomputable def bJ:Nat->D->Bool
 |_,.non=>true
 |_,.bl _=>true
 |_,.int _=>true
 |_,.str _=>true
 |_,.ty _=>false
 |_,.dk _ _=>false
 |_,.dt _ _=>false
 |0,.tup _=>false
 |0,.lst _=>false
 |n+1,.tup ds=>ds.all (bJ n)
 |n+1,.lst ds=>ds.all (bJ n)
theorem mv:∀ {xs ys:LD},gA xs ys=true->xs.length=ys.length
 |[],[],_=>rfl
 |x::xs,y::ys,h=>by
  simp only[gA,vD]at h;rw[vE,vE,mv h.2]
 |[],_::_,h=>by simp[gA]at h
 |_::_,[],h=>by simp[gA]at h
def px (h:xs.length≠ys.length):gA xs ys=false:=by
 cases e:gA xs ys with
 |false=>rfl
 |true=>exact absurd (mv e) h
theorem gB (f:Nat->Bool):∀ {xs ys:LD},xs.length=ys.length->(∀(j:Nat) x y,xs[j]? = some x->ys[j]? = some y->f j=cM x y)->(List.range xs.length).all f=gA xs ys
 |[],[],_,_=>by simp[gA]
 |x::xs,y::ys,hl,h=>by
  have e:=gB (λj=>f (j+1)) (xs:=xs) (ys:=ys) (by simpa using hl) λj a b h1 h2=>h (j+1) a b (by simpa using h1) (by simpa using h2);rw[vE,List.range_succ_eq_map,all_cons,all_map,gA,←h 0 x y rfl rfl,←e];rfl
 |[],_::_,hl,_=>by simp at hl
 |_::_,[],hl,_=>by simp at hl
section
variable {X:Cx}{ac:AO}{σ:St}{H:Hp}{s:Shared}
def pz (I:Inv X ac σ H s)(h1:eS X.K H a vs)(h2:fz X.K H a ws):False:=by
 obtain⟨its,_,⟨o,e,c,_⟩,_⟩:=I.tuple h1;obtain⟨its',_,⟨o',O,G,M,_⟩,_⟩:=I.list h2;rw[e]at G;cases G;rw[c]at M;injection M with z;exact absurd z (by decide)
def p4 (I:Inv X ac σ H s)(e:s.heap.get? a=some o)(d:o.data=.seq its n):(∀aI ob,H a≠some (.dK aI ob))/\∀aI,H a≠some (.dT aI):=by
 refine⟨λaI ob h=>?_,λaI h=>?_⟩
 ·obtain⟨_,_,_,_,_,o',es,M,G,_,d',_⟩:=(show bN X.prog X.w H s.heap a (.dK aI ob)from I.hok a _ h);rw[e]at G;cases G;rw[d]at d';cases d'
 ·obtain⟨_,_,_,_,o',es,M,G,_,d',_⟩:=(show bN X.prog X.w H s.heap a (.dT aI)from I.hok a _ h);rw[e]at G;cases G;rw[d]at d';cases d'
def mw (I:Inv X ac σ H s)(h1:eS X.K H a vs):(∀aI ob,H a≠some (.dK aI ob))/\∀aI,H a≠some (.dT aI):=by
 obtain⟨its,_,⟨o,e,c,n,d⟩,_⟩:=I.tuple h1;exact p4 I e d
def mx (I:Inv X ac σ H s)(h1:fz X.K H a vs):(∀aI ob,H a≠some (.dK aI ob))/\∀aI,H a≠some (.dT aI):=by
 obtain⟨its,_,p,_⟩:=I.list h1;obtain⟨o,e,c,n,d⟩:=p.isList;exact p4 I e d
def p5 (I:Inv X ac σ H s):∀(n:Nat){v:V}{d d':D},Is X.K H v d->Is X.K H v d'->bJ n d=true->cM d d'=true:=by
 have G:∀ {p:D->Bool}(O:∀ {v:V}{d d':D},Is X.K H v d->Is X.K H v d'->p d=true->cM d d'=true) {vs:LV}{ds M:LD},IsL X.K H vs ds->IsL X.K H vs M->ds.all p=true->gA ds M=true:=by
  intro p O vs;induction vs with
  |nil=>intro ds M h h' _;cases h;cases h';simp[gA]
  |cons v vs T=>
   intro ds M h h' hp;cases h with
   |cons h1 h2=>
    cases h' with
    |cons h3 h4=>
     rw[all_cons,vD]at hp;rw[gA,O h1 h3 hp.1,T h2 h4 hp.2];rfl
 intro n;induction n with
 |zero=>
  intro v d d' h h' hp;cases h<;>cases h'<;>first|(simp[bJ]at hp;done)|simp[cM]
 |succ n O=>
  intro v d d' h h' hp;cases h with
  |tup h1 h2=>
   cases h' with
   |tup h3 h4=>
    rw[I.tuple_inj h3 h1]at h4;rw[cM];exact G O h2 h4 (by simpa [bJ]using hp)
   |lst h3 h4=>exact(pz I h1 h3).elim
   |dk h3 _ _=>exact((mw I h1).1 _ _ h3).elim
   |dt h3 _ _=>exact((mw I h1).2 _ h3).elim
  |lst h1 h2=>
   cases h' with
   |lst h3 h4=>
    rw[I.list_inj h3 h1]at h4;rw[cM];exact G O h2 h4 (by simpa [bJ]using hp)
   |tup h3 h4=>exact(pz I h3 h1).elim
   |dk h3 _ _=>exact((mx I h1).1 _ _ h3).elim
   |dt h3 _ _=>exact((mx I h1).2 _ h3).elim
  |ty=>simp[bJ]at hp
  |dk=>simp[bJ]at hp
  |dt=>simp[bJ]at hp
  |_=>cases h'<;>simp[cM]
def wm {α:Type}{p:α->Bool}{l:List α}{j:Nat}{x:α}(h:l.all p=true)(e:l[j]? = some x):p x=true:=uS h x (mem_of_getElem? e)
def my {A:Around}{p:D->Bool}(ih:∀ {O T:V}{d1 d2:D}{U u2:Value},p d1=true->p d2=true->Is X.K H O d1->Is X.K H T d2->aT O U->aT T u2->SeqAt.EqAt A s U u2 (cM d1 d2))
  {vs M:LV}{ds es:LD}{its G:LU}(i1:IsL X.K H vs ds) (i2:IsL X.K H M es) (r1:aX vs its) (r2:aX M G) (p1:ds.all p=true) (p2:es.all p=true):
  ∀j (h1:j<its.toArray.size) (h2:j<G.toArray.size),SeqAt.EqAt A s its.toArray[j] G.toArray[j] (cM (ds.getD j .non) (es.getD j .non)):=by
 intro j h1 h2;rw[vH]at h1 h2;have l1:=r1.length;have l2:=r2.length;have l3:=i1.length;have l4:=i2.length;have hv:j<vs.length:=by omega
 have hw:j<M.length:=by omega
 have hd:j<ds.length:=by omega
 have he:j<es.length:=by omega
 obtain⟨u,e1,q1⟩:=r1.get (i:=j) (x:=vs[j]) (by simp[hv]);obtain⟨u',e2,q2⟩:=r2.get (i:=j) (x:=M[j]) (by simp[hw]);obtain⟨v,e3,q3⟩:=i1.get (i:=j) (d:=ds[j]) (by simp[hd]);obtain⟨w,e4,q4⟩:=i2.get (i:=j) (d:=es[j]) (by simp[he]);have a1:its.toArray[j]=u:=by have z:=(vV e1).2;simpa using z
 have a2:G.toArray[j]=u':=by have z:=(vV e2).2;simpa using z
 have a3:vs[j]=v:=by simpa [hv]using e3
 have a4:M[j]=w:=by simpa [hw]using e4
 have a5:ds.getD j .non=ds[j]:=by simp[List.getD,hd]
 have a6:es.getD j .non=es[j]:=by simp[List.getD,he]
 rw[a1,a2,a5,a6];exact ih (wm p1 (j:=j) (by simp[hd])) (wm p2 (j:=j) (by simp[he])) (a3 ▸ q3) (a4 ▸ q4) q1 q2
def p6 {xs ys:LD}(j:Nat)(x y:D)(h1:xs[j]? = some x)(h2:ys[j]? = some y):cM (xs.getD j .non) (ys.getD j .non)=cM x y:=by
 simp[List.getD,h1,h2]
abbrev Ce (A:Around)(s:Shared)(G M:Value)(b:Bool):Prop:=SeqAt.RcAt A s G M b/\SeqAt.EqAt A s G M b/\SeqAt.RcNeAt A s G M (!b)
def p7 {G M:Addr}(O:SeqAt.RcAt A s (.ref G) (.ref M) b)(T:SeqAt.RcNeAt A s (.ref G) (.ref M) (!b))(h:G=M->b=true):Ce A s (.ref G) (.ref M) b:=by
 refine⟨O,?_,T⟩;by_cases ha:G=M
 ·subst ha;rw[h rfl];exact SeqAt.EqAt.same _
 ·exact SeqAt.EqAt.of_refs ha O
def mz (p1:bJ 0 d1=true)(M:bJ 0 d2=true)(i1:Is X.K H v1 d1)(i2:Is X.K H v2 d2)(O:aT v1 u1)(G:aT v2 u2):Ce A s u1 u2 (cM d1 d2):=by
 cases i1 with
 |non=>
  cases O
  cases i2 with
  |non=>cases G;rw[cM];exact⟨.none_none,.same _,.none_none⟩
  |bl b=>cases G;simp only[cM];exact⟨.none_bool _,.none_bool _,.none_bool _⟩
  |int b=>obtain⟨t',rfl⟩:=G;simp only[cM];exact⟨.none_int _ _,.none_int _ _,.none_int _ _⟩
  |str b=>obtain⟨t',rfl⟩:=G;simp only[cM];exact⟨.none_str _ _,.none_str _ _,.none_str _ _⟩
  |_=>simp at M
 |bl a=>
  cases O
  cases i2 with
  |non=>cases G;simp only[cM];exact⟨.bool_none _,.bool_none _,.bool_none _⟩
  |bl b=>cases G;rw[cM];exact⟨.bool_bool _ _,.bool_bool _ _,.bool_bool _ _⟩
  |int b=>obtain⟨t',rfl⟩:=G;rw[cM,←Bool.beq_eq_decide_eq];exact⟨.bool_int _ _ _,.bool_int _ _ _,.bool_int _ _ _⟩
  |str b=>obtain⟨t',rfl⟩:=G;simp only[cM];exact⟨.bool_str _ _ _,.bool_str _ _ _,.bool_str _ _ _⟩
  |_=>simp at M
 |int a=>
  obtain⟨t,rfl⟩:=O;cases i2 with
  |non=>cases G;simp only[cM];exact⟨.int_none _ _,.int_none _ _,.int_none _ _⟩
  |bl b=>cases G;rw[cM,←Bool.beq_eq_decide_eq];exact⟨.int_bool _ _ _,.int_bool _ _ _,.int_bool _ _ _⟩
  |int b=>obtain⟨t',rfl⟩:=G;rw[cM,←Bool.beq_eq_decide_eq];exact⟨.int_int _ _ _ _,.int_int _ _ _ _,.int_int _ _ _ _⟩
  |str b=>obtain⟨t',rfl⟩:=G;simp only[cM];exact⟨.int_str _ _ _ _,.int_str _ _ _ _,.int_str _ _ _ _⟩
  |_=>simp at M
 |str a=>
  obtain⟨t,rfl⟩:=O;cases i2 with
  |non=>cases G;simp only[cM];exact⟨.str_none _ _,.str_none _ _,.str_none _ _⟩
  |bl b=>cases G;simp only[cM];exact⟨.str_bool _ _ _,.str_bool _ _ _,.str_bool _ _ _⟩
  |int b=>obtain⟨t',rfl⟩:=G;simp only[cM];exact⟨.str_int _ _ _ _,.str_int _ _ _ _,.str_int _ _ _ _⟩
  |str b=>obtain⟨t',rfl⟩:=G;rw[cM,←Bool.beq_eq_decide_eq];exact⟨.str_str _ _ _ _,.str_str _ _ _ _,.str_str _ _ _ _⟩
  |_=>simp at M
 |_=>simp at p1
def wn (I:Inv X ac σ H s):∀(n:Nat){A:Around}{v1 v2:V}{d1 d2:D}{u1 u2:Value},A.units+n<cLine->bJ n d1=true->bJ n d2=true->Is X.K H v1 d1->Is X.K H v2 d2->aT v1 u1->aT v2 u2->Ce A s u1 u2 (cM d1 d2):=by
 intro n;induction n with
 |zero=>exact λ_ p1 p2 i1 i2 O U=>mz p1 p2 i1 i2 O U
 |succ n ih=>
  intro A v1 v2 d1 d2 u1 u2 hu p1 p2 i1 i2 O U;have G:A.units<cLine:=by omega
  have DI:∀ {v1 v2:V}{d1 d2:D}{u1 u2:Value},bJ n d1=true->bJ n d2=true->Is X.K H v1 d1->Is X.K H v2 d2->aT v1 u1->aT v2 u2->SeqAt.EqAt A.in1 s u1 u2 (cM d1 d2):=λp1 p2 i1 i2 O U=>(ih (A:=A.in1) (by show A.units+1+n<cLine;omega) p1 p2 i1 i2 O U).2.1;by_cases f2:bJ 0 d2=true
  ·by_cases f1:bJ 0 d1=true
   ·exact mz f1 f2 i1 i2 O U
   ·cases i1 with
    |tup h1 k1=>
     cases O
     obtain⟨its,T,M,z1⟩:=I.tuple h1;cases i2 with
     |non=>cases U;simp only[cM];exact⟨.tuple_none M G,.tuple_none M G,.tuple_none M G⟩
     |bl=>cases U;simp only[cM];exact⟨.tuple_bool _ M G,.tuple_bool _ M G,.tuple_bool _ M G⟩
     |int=>obtain⟨t,rfl⟩:=U;simp only[cM];exact⟨.tuple_int _ _ M G,.tuple_int _ _ M G,.tuple_int _ _ M G⟩
     |str=>obtain⟨t,rfl⟩:=U;simp only[cM];exact⟨.tuple_str _ _ M G,.tuple_str _ _ M G,.tuple_str _ _ M G⟩
     |_=>simp at f2
    |lst h1 k1=>
     cases O
     obtain⟨its,T,M,z1⟩:=I.list h1;replace M:=M.isList;cases i2 with
     |non=>cases U;simp only[cM];exact⟨.list_none M G,.list_none M G,.list_none M G⟩
     |bl=>cases U;simp only[cM];exact⟨.list_bool _ M G,.list_bool _ M G,.list_bool _ M G⟩
     |int=>obtain⟨t,rfl⟩:=U;simp only[cM];exact⟨.list_int _ _ M G,.list_int _ _ M G,.list_int _ _ M G⟩
     |str=>obtain⟨t,rfl⟩:=U;simp only[cM];exact⟨.list_str _ _ M G,.list_str _ _ M G,.list_str _ _ M G⟩
     |_=>simp at f2
    |_=>simp at f1 p1
  ·cases i2 with
   |tup h2 k2=>
    cases U
    obtain⟨wE,Bl,t2,z2⟩:=I.tuple h2;cases i1 with
    |tup h1 k1=>
     cases O
     obtain⟨its,T,M,z1⟩:=I.tuple h1;rename_i a2 ws es a1 vs ds;have he:=my (A:=A.in1) (p:=bJ n) DI k1 k2 T Bl (by simpa using p1) (by simpa using p2);have CN:((List.range (min its.toArray.size wE.toArray.size)).all (λj=>cM (ds.getD j .non) (es.getD j .non)) && its.toArray.size == wE.toArray.size)=cM (.tup ds) (.tup es):=by
      rw[cM,vH,vH,←T.length,←Bl.length,k1.length,k2.length];by_cases hl:ds.length=es.length
      ·rw[←hl,Nat.min_self,beq_self_eq_true,Bool.and_true];exact gB _ hl λj x y e1 e2=>p6 j x y e1 e2
      ·rw[px hl,beq_eq_false_iff_ne.mpr hl,Bool.and_false]
     have rc:=SeqAt.RcAt.tuples M t2 G he;have rn:=SeqAt.RcNeAt.tuples M t2 G he;rw[CN]at rc rn;exact p7 rc rn λe=>by subst e;exact p5 I (n+1) (.tup h1 k1) (.tup h2 k2) p1
    |lst h1 k1=>cases O;obtain⟨its,T,M,z1⟩:=I.list h1;simp only[cM];exact⟨.list_tuple M.isList t2 G,.list_tuple M.isList t2 G,.list_tuple M.isList t2 G⟩
    |non=>cases O;simp only[cM];exact⟨.none_tuple t2 G,.none_tuple t2 G,.none_tuple t2 G⟩
    |bl=>cases O;simp only[cM];exact⟨.bool_tuple _ t2 G,.bool_tuple _ t2 G,.bool_tuple _ t2 G⟩
    |int=>obtain⟨t,rfl⟩:=O;simp only[cM];exact⟨.int_tuple _ _ t2 G,.int_tuple _ _ t2 G,.int_tuple _ _ t2 G⟩
    |str=>obtain⟨t,rfl⟩:=O;simp only[cM];exact⟨.str_tuple _ _ t2 G,.str_tuple _ _ t2 G,.str_tuple _ _ t2 G⟩
    |_=>simp at p1
   |lst h2 k2=>
    cases U
    obtain⟨wE,Bl,t2,z2⟩:=I.list h2;replace t2:=t2.isList;cases i1 with
    |lst h1 k1=>
     cases O
     obtain⟨its,T,M,z1⟩:=I.list h1;replace M:=M.isList;rename_i a2 ws es a1 vs ds;have he:=my (A:=A.in1) (p:=bJ n) DI k1 k2 T Bl (by simpa using p1) (by simpa using p2);have both:SeqAt.RcAt A s (.ref a1) (.ref a2) (cM (.lst ds) (.lst es))/\SeqAt.RcNeAt A s (.ref a1) (.ref a2) (!cM (.lst ds) (.lst es)):=by
      have hz:its.toArray.size=ds.length/\wE.toArray.size=es.length:=by rw[vH,vH,←T.length,←Bl.length,k1.length,k2.length];exact⟨rfl,rfl⟩
      by_cases hl:ds.length=es.length
      ·have CN:(List.range its.toArray.size).all (λj=>cM (ds.getD j .non) (es.getD j .non))=cM (.lst ds) (.lst es):=by
        rw[cM,hz.1];exact gB _ hl λj x y e1 e2=>p6 j x y e1 e2
       have hs:=(hz.1.trans hl).trans hz.2.symm;have rc:=SeqAt.RcAt.lists M t2 hs G he;have rn:=SeqAt.RcNeAt.lists M t2 hs G he;rw[CN]at rc rn;exact⟨rc,rn⟩
      ·have hs:(its.toArray.size != wE.toArray.size)=true:=by rw[hz.1,hz.2];exact bne_iff_ne.mpr hl
       rw[cM,px hl];exact⟨.lists_lengths M t2 hs G,.lists_lengths M t2 hs G⟩
     exact p7 both.1 both.2 λe=>by subst e;exact p5 I (n+1) (.lst h1 k1) (.lst h2 k2) p1
    |tup h1 k1=>cases O;obtain⟨its,T,M,z1⟩:=I.tuple h1;simp only[cM];exact⟨.tuple_list M t2 G,.tuple_list M t2 G,.tuple_list M t2 G⟩
    |non=>cases O;simp only[cM];exact⟨.none_list t2 G,.none_list t2 G,.none_list t2 G⟩
    |bl=>cases O;simp only[cM];exact⟨.bool_list _ t2 G,.bool_list _ t2 G,.bool_list _ t2 G⟩
    |int=>obtain⟨t,rfl⟩:=O;simp only[cM];exact⟨.int_list _ _ t2 G,.int_list _ _ t2 G,.int_list _ _ t2 G⟩
    |str=>obtain⟨t,rfl⟩:=O;simp only[cM];exact⟨.str_list _ _ t2 G,.str_list _ _ t2 G,.str_list _ _ t2 G⟩
    |_=>simp at p1
   |_=>simp at f2 p2
@[simp] def cB:D->D->OB:=λx y=>if bJ 40 x=true/\bJ 40 y=true then some (.bl (cM x y),false)else none
@[simp] def jl:D->D->OB:=λx y=>if bJ 40 x=true/\bJ 40 y=true then some (.bl (!cM x y),false)else none
def cg (hu:X.A.units+40<cLine):cF X (compareOp .Eq) (rD X.K cB):=by
 intro ac s σ H x y v u Q I M O q;obtain⟨B,dx,dy,d,b,G,T,U,e,q⟩:=q;unfold cB at e;split at e
 ·rename_i hp;cases e
  exact(wn I 40 hu hp.1 hp.2 (T.mono G) (U.mono G) M O).1 _ _ _ _ ⟨.bl _,H,I,rfl,q.one G (.bl _)⟩
 ·cases e
def km (hu:X.A.units+40<cLine):cF X (compareOp .NotEq) (rD X.K jl):=by
 intro ac s σ H x y v u Q I M O q;obtain⟨B,dx,dy,d,b,G,T,U,e,q⟩:=q;unfold jl at e;split at e
 ·rename_i hp;cases e
  exact(wn I 40 hu hp.1 hp.2 (T.mono G) (U.mono G) M O).2.2 _ _ _ _ ⟨.bl _,H,I,rfl,q.one G (.bl _)⟩
 ·cases e
end
section
variable {X:Cx}{a b e:Expr}{pos:Pos}
def lE {K:Frag}{H:Hp}{vs:LV}{ds:LD}{i:Int}{d:D}(h:IsL K H vs ds)(e:iQ ds i=some d):∃v,iQ vs i=some v/\Is K H v d:=by
 unfold iQ at e ⊢;rw[h.length];cases q:oZ ds.length i with
 |none=>rw[q]at e;cases e
 |some j=>rw[q]at e;exact h.get e
@[simp] def da:D->D->OB
 |.lst ds,.int i=>(iQ ds i).map λd=>(d,false)
 |.tup ds,.int i=>(iQ ds i).map λd=>(d,false)
 |.str z,.int i=>if z.length<=sizeLine then (iQ z.cps.toList i).map λc=>(.str ⟨#[c]⟩,false)else none
 |_,_=>none
def Cf:rm X (rD X.K da):=by
 intro G M ac s σ H x y v u Q I rx ry q hs;obtain⟨B,dx,dy,d,b,O,ix,iy,e,q⟩:=q;cases ix<;>try (cases e;done)
 all_goals (cases iy<;>try (cases e;done))
 ·simp only[da]at e;split at e
  ·rename_i hz;obtain⟨c,T,U⟩:=oY e;cases U
   exact lw G M ac s σ H _ _ v u Q I rx ry ⟨_,_,c,rfl,rfl,hz,T,q.one O (.str _)⟩ hs
  ·cases e
 ·rename_i h hl i;simp only[da]at e;obtain⟨c,T,U⟩:=oY e;cases U
  obtain⟨w,h1,h2⟩:=lE hl T;exact ro G M ac s σ H _ _ v u Q I rx ry ⟨_,_,_,w,rfl,rfl,bf O h,h1,q.one O h2⟩ hs
 ·rename_i h hl i;simp only[da]at e;obtain⟨c,T,U⟩:=oY e;cases U
  obtain⟨w,h1,h2⟩:=lE hl T;exact pe G M ac s σ H _ _ v u Q I rx ry ⟨_,_,_,w,rfl,rfl,O.seq h,h1,q.one O h2⟩ hs
def cJ (ha:JE X a fa)(hb:JE X b fb)(hs:gO b:=by intro _ _;rfl):JE X (.Subscript a b pos) (f2 da fa fb):=PE.to (pd Cf ha hb hs) λ_ _ _ h=>uq h
abbrev FO:=Env->Option OI
def El (K:Frag)(f:FO):TO:=λσ H Q=>∃(B:Hp)(ρ:Env)(o:OI),aQ B H/\di K B σ ρ/\f ρ=some o/\∀H',aQ H H'->Q o H'
abbrev JO (X:Cx)(e:Option Expr)(f:FO):Prop:=PO X e (El X.K f)
@[simp] def cP:FO:=λ_=>some none
@[simp] noncomputable def bj (f:FE):FO:=λρ=>match f ρ with|some (.int i,_)=>some (some i)|_=>none
def cQ:JO X none cP:=λac s σ H Q I h=>ue ac s σ H Q I (by
 obtain⟨B,ρ,o,G,r,e,q⟩:=h;cases e
 exact q H (.refl H))
def bR (h:JE X e f):JO X (some e) (bj f):=λac s σ H Q I q=>uf h ac s σ H Q I (by
 obtain⟨B,ρ,o,G,r,e,q⟩:=q;unfold bj at e;split at e
 ·rename_i i U M;cases e
  refine⟨B,ρ,_,_,G,r,M,λv O N1 T i1 _=>?_⟩;cases i1
  exact⟨i,rfl,q O T.hh⟩
 ·cases e)
def c8 (ds:LD)(lo hi:OI):LD:=(ds.drop (HT.cu ds.length 0 lo)).take (HT.cu ds.length ds.length hi - HT.cu ds.length 0 lo)
def lF {K:Frag}{H:Hp}{vs:LV}{ds:LD}{lo hi:OI}(h:IsL K H vs ds):IsL K H (kh vs lo hi) (c8 ds lo hi):=by
 unfold kh c8;rw[h.length];exact(h.drop _).take _
def bT.to (h:bT X f r)(k:∀xs H Q,r' xs H Q->r xs H Q):bT X f r':=λac s σ H xs us Q I G q=>h ac s σ H xs us Q I G (k xs H Q q)
variable {es:QD}{x:Str}{p:Pos}{id T:String}
def av (hc:bT X (.builtin id) (tM X.K f))(hm:X.mg x=none)(O:bootBuiltins x=some (.builtin id))(ha:JA X (e::es) fa)(U:Gl X x:=by rfl)(hn:x ≠ "__name__":=by decide)(G:(x == ("__debug__" : Str))=false:=by decide)
  (he:starEach (e::es) X.env=(false,eval e X.env)::starEach es X.env:=by rfl) (M:(backTo pos (starEach es X.env)).any (·.1)=false:=by rfl):JE X (.Call (.Name x p) (e::es) [] pos) (fA f fa):=PE.to (rh hc U hm O ha hn G he M) λ_ _ _ h=>ur h
def cH (hc:bT X (.type T) (tM X.K f))(hm:X.mg x=none)(O:bootBuiltins x=some (.type T))(ha:JA X (e::es) fa)(U:Gl X x:=by rfl)(hn:x ≠ "__name__":=by decide)(G:(x == ("__debug__" : Str))=false:=by decide)
  (he:starEach (e::es) X.env=(false,eval e X.env)::starEach es X.env:=by rfl) (M:(backTo pos (starEach es X.env)).any (·.1)=false:=by rfl):JE X (.Call (.Name x p) (e::es) [] pos) (fA f fa):=PE.to (qs hc U hm O ha hn G he M) λ_ _ _ h=>ur h
@[simp] noncomputable def bp:LD->OB
 |[.lst ds]=>some (.int ds.length,false)
 |[.tup ds]=>some (.int ds.length,false)
 |[.str z]=>if z.length<=sizeLine then some (.int z.length,false)else none
 |_=>none
def cn:bT X (.builtin "len") (tM X.K bp):=by
 refine bT.to (bT.or lz l0) λxs H Q q=>?_;obtain⟨B,ds,d,b,G,i,e,q⟩:=q;cases i with
 |nil=>simp[bp]at e
 |cons i1 i2=>
  cases i2 with
  |cons _ _=>cases i1<;>simp[bp]at e
  |nil=>
   cases i1<;>try (simp[bp]at e;done)
   ·simp only[bp]at e;split at e
    ·rename_i hz;cases e
     exact .inr ⟨_,rfl,hz,q.one G (.int _)⟩
    ·cases e
   ·rename_i h hl;simp only[bp]at e;cases e
    refine .inl ⟨_,_,rfl,.inr (bf G h),?_⟩;rw[hl.length];exact q.one G (.int _)
   ·rename_i h hl;simp only[bp]at e;cases e
    refine .inl ⟨_,_,rfl,.inl (G.seq h),?_⟩;rw[hl.length];exact q.one G (.int _)
def cD (hm:X.mg x=none)(G:bootBuiltins x=some (.type n))(M:Gl X x:=by rfl)(hn:x ≠ "__name__":=by decide)(hd:(x == ("__debug__" : Str))=false:=by decide):JE X (.Name x pos) (fC (.ty n)) :=
 PE.to (tS M hm G (v:=.ty n) rfl hn hd) λ_ _ _ h=>q0 (λ_=>.ty n) h
end
def Aj (hr:dH k A):A.units+40<cLine:=by have:=hr.un;omega
section
variable {X:Cx}{a b e:Expr}{pos:Pos}{x:Str}{p:Pos}
def dC (h:∃u v,X.mg x=some u/\aT v u/\∀B,Is X.K B v d)(G:Gl X x:=by rfl)(hd:(x == ("__debug__" : Str))=false:=by decide):JE X (.Name x pos) (fC d):=by
 obtain⟨u,v,hm,r,i⟩:=h;exact u4 G hm r i hd
@[simp] noncomputable def p8:D->D->OB
 |.int i,.int j=>some (.int (i+j),false)
 |.str i,.str j=>if i.length+j.length<=sizeLine then some (.str (i++j),false)else none
 |_,_=>none
def uB:cF X (binaryOp .Add) (rD X.K p8):=by
 refine fP (r:=rD X.K (tN xJ u8)) (jA Ae xK) λx y H Q q=>?_;obtain⟨B,dx,G,d,b,M,O,T,e,q⟩:=q;refine⟨B,dx,G,d,b,M,O,T,?_,q⟩;cases dx<;>try (cases e;done)
 all_goals (cases G<;>try (cases e;done))
 all_goals (simp[p8]at e;simp[tN,xJ,u8,nS,yY,e])
@[simp] def fN:D->D->OB:=Ac
def iu:cF X (binaryOp .Mult) (rD X.K fN):=Af
@[simp] def p9:D->D->OB:=Dp
def jB:cF X (compareOp .Lt) (rD X.K p9):=Cc
@[simp] noncomputable def gD:D->D->OB
 |.int i,.int j=>some (.bl (decide (i<=j)),false)
 |.str i,.str j=>some (.bl (!decide (j.cps.toList<i.cps.toList)),false)
 |_,_=>none
def eV:cF X (compareOp .LtE) (rD X.K gD):=by
 refine fP (r:=rD X.K (tN Cb Bz)) (jA Cd Ah) λx y H Q q=>?_;obtain⟨B,dx,G,d,b,M,O,T,e,q⟩:=q;refine⟨B,dx,G,d,b,M,O,T,?_,q⟩;cases dx<;>try (cases e;done)
 all_goals (cases G<;>try (cases e;done))
 all_goals (simp[gD]at e;simp[tN,Cb,Bz,nS,yY,e])
@[simp] noncomputable def uC:D->OB
 |.int i=>some (.int (-i),false)
 |_=>none
def Ak:z6 X (unaryOp .USub) (BZ X.K uC):=by
 intro ac s σ H x v Q I G q;obtain⟨B,dx,d,b,M,O,e,q⟩:=q;cases O<;>try (simp[uC]at e;done)
 simp only[uC]at e;cases e
 exact xj ac s σ H _ v Q I G ⟨_,rfl,q.one M (.int _)⟩
@[simp] noncomputable def rT:D->D->Option Bool
 |.non,.non=>some true
 |_,.non=>some false
 |.bl a,.bl b=>some (a == b)
 |_,.bl _=>some false
 |_,_=>none
@[simp] def uD:D->D->OB:=λx y=>(rT x y).map λb=>(.bl b,false)
@[simp] def lG:D->D->OB:=λx y=>(rT x y).map λb=>(.bl (!b),false)
def pA {K:Frag}{B:Hp}{x y:V}{v u:Value}{dx G:D}{k:Bool}(O:Is K B x dx)(T:Is K B y G)(M:aT x v)(U:aT y u)(e:rT dx G=some k):plainIs v u=true/\(v == u)=k:=by
 cases T<;>(first|(cases dx<;>simp[rT]at e;done)|skip)
 all_goals (cases O)
 all_goals (first|(obtain⟨t,rfl⟩:=M)|cases M)
 all_goals (cases U)
 all_goals (simp only[rT,Option.some.injEq]at e;subst e)
 all_goals (first|exact⟨rfl,rfl⟩|skip)
 all_goals (rename_i c d;cases c<;>cases d<;>exact⟨rfl,rfl⟩)
def nU:cF X (compareOp .Is) (rD X.K uD):=by
 intro ac s σ H x y v u Q I G M q;obtain⟨B,dx,dy,d,b,O,T,U,e,q⟩:=q;obtain⟨k,ek,e⟩:=oY e;cases e
 obtain⟨h1,h2⟩:=pA T U G M ek;refine wpAny_is_plain h1 ⟨.bl k,H,I,by rw[h2];rfl,q.one O (.bl _)⟩
def uE:cF X (compareOp .IsNot) (rD X.K lG):=by
 intro ac s σ H x y v u Q I G M q;obtain⟨B,dx,dy,d,b,O,T,U,e,q⟩:=q;obtain⟨k,ek,e⟩:=oY e;cases e
 obtain⟨h1,h2⟩:=pA T U G M ek;refine wpAny_isNot_plain h1 ⟨.bl (!k),H,I,by rw[h2];rfl,q.one O (.bl _)⟩
@[simp] noncomputable def eF:D->Bool
 |.non=>true|.bl _=>true|.int _=>true|.str _=>true
 |_=>false
def xM (x:D)(ds:LD):Bool:=ds.any λy=>cM y x
@[simp] noncomputable def gU:D->Option LD
 |.lst ds=>some ds
 |.tup ds=>some ds
 |_=>none
@[simp] def Al:D->D->OB:=λx y=>(gU y).bind λds=>if eF x=true/\ds.all eF=true then some (.bl (xM x ds),false)else none
def nV {K:Frag}{B:Hp}{v:V}{d:D}(i:Is K B v d)(h:eF d=true):gv v=true:=by
 cases i<;>first|rfl|(simp[eF]at h)
def Cg {K:Frag}{B:Hp}{v w:V}{d e:D}(i:Is K B v d)(j:Is K B w e)(h:eF d=true)(h':eF e=true):tL v w=cM d e:=by
 cases i<;>(first|(simp[eF]at h;done)|skip)
 all_goals (cases j<;>(first|(simp[eF]at h';done)|skip))
 all_goals (simp only[tL,cM,Bool.beq_eq_decide_eq])
theorem rV {K:Frag}{B:Hp}:∀ {vs:LV}{ds:LD},IsL K B vs ds->ds.all eF=true->vs.all gv=true
 |_,_,.nil,_=>rfl
 |_,_,.cons i t,h=>by
  rw[all_cons,vD]at h;rw[all_cons,nV i h.1,rV t h.2];rfl
theorem xN {K:Frag}{B:Hp}{v:V}{d:D}(j:Is K B v d)(hd:eF d=true):∀ {vs:LV}{ds:LD},IsL K B vs ds->ds.all eF=true->Bw v vs=xM d ds
 |_,_,.nil,_=>rfl
 |_,_,.cons i t,h=>by
  rw[all_cons,vD]at h;have e:=xN j hd t h.2;unfold Bw xM at *;rw[any_cons,any_cons,e,Cg i j h.1 hd]
def wo:cF X (compareOp .In) (rD X.K Al):=by
 refine fP qt λx y H Q q=>?_;obtain⟨B,dx,U,d,b,M,O,T,e,q⟩:=q;obtain⟨ds,es,e⟩:=oX e;split at e
 ·rename_i G;cases e
  cases T<;>simp only[gU]at es<;>try (cases es;done)
  ·rename_i h hl;cases es
   exact⟨_,_,rfl,.inr (bf M h),nV O G.1,rV hl G.2,by rw[if_neg (by decide),xN O G.1 hl G.2];exact q.one M (.bl _)⟩
  ·rename_i h hl;cases es
   exact⟨_,_,rfl,.inl (M.seq h),nV O G.1,rV hl G.2,by rw[if_neg (by decide),xN O G.1 hl G.2];exact q.one M (.bl _)⟩
 ·cases e
def cr:bootBuiltins "len" = some (.builtin "len"):=PySem.boot_len
def aB:bootBuiltins "isinstance" = some (.builtin "isinstance"):=by decide +kernel
def Am:bootBuiltins "max" = some (.builtin "max"):=by decide +kernel
def An:bootBuiltins "min" = some (.builtin "min"):=by decide +kernel
def m5:bootBuiltins "all" = some (.builtin "all"):=by decide +kernel
def wp:bootBuiltins "int" = some (.type "int"):=by decide +kernel
def rW:bootBuiltins "bool" = some (.type "bool"):=by decide +kernel
def kH:bootBuiltins "str" = some (.type "str"):=by decide +kernel
def nW:bootBuiltins "list" = some (.type "list"):=by decide +kernel
def bK:bootBuiltins "tuple" = some (.type "tuple"):=by decide +kernel
@[simp] noncomputable def rX:LD->OB
 |[.int i,.int j]=>some (.int (if j > i then j else i),false)
 |_=>none
@[simp] noncomputable def rY:LD->OB
 |[.int i,.int j]=>some (.int (if j<i then j else i),false)
 |_=>none
def m7 {K:Frag}{B:Hp}{xs:LV}{i j:Int}(h:IsL K B xs [.int i,.int j]):xs=[.int i,.int j]:=by
 cases h with
 |cons h1 h2=>cases h1;cases h2 with|cons h3 h4=>cases h3;cases h4;rfl
def Ao (hc:X.calm=true:=by rfl):bT X (.builtin "max") (tM X.K rX):=by
 refine bT.to (qo hc) λxs H Q q=>?_;obtain⟨B,ds,d,b,G,i,e,q⟩:=q;match ds,e with
 |[.int M,.int O],e=>simp only[rX]at e;cases e;exact⟨M,O,m7 i,q.one G (.int _)⟩
def Ap (hc:X.calm=true:=by rfl):bT X (.builtin "min") (tM X.K rY):=by
 refine bT.to (qp hc) λxs H Q q=>?_;obtain⟨B,ds,d,b,G,i,e,q⟩:=q;match ds,e with
 |[.int M,.int O],e=>simp only[rY]at e;cases e;exact⟨M,O,m7 i,q.one G (.int _)⟩
@[simp] noncomputable def gE:D->String
 |.non=>"NoneType" | .bl _=>"bool" | .int _=>"int" | .str _=>"str" | .ty _=>"type" | .tup _=>"tuple" | .lst _=>"list" | .dk _ _=>"dict" | .dt _ _=>"dict"
@[simp] def jC:D->Bool
 |.ty _=>true
 |_=>false
@[simp] noncomputable def pB (t n:String):OB :=
 if n = "int" then some (.bl (t == "int" || t == "bool"),false)else if n = "bool" then some (.bl (t == "bool"),false)else if n = "str" then some (.bl (t == "str"),false)
 else if n = "list" then some (.bl (t == "list"),false)else if n = "tuple" then some (.bl (t == "tuple"),false)else none
@[simp] def ap:LD->OB
 |[d,.ty n]=>if jC d=true then none else pB (gE d) n
 |_=>none
def uF {ac:AO}{σ:St}{H:Hp}{s:Shared}{A:Around}{E:QV}{Q:QV}{c:Value}{b:Bool}{v:V}{d:D}{u:Value}(I:Inv X ac σ H s)(i:Is X.K H v d)(hd:∀n,d≠.ty n)(G:aT v u)(e:PySem.W.kitOne X.K (.type (gE d)) c=some b)(h:∀M,Q (.bool b) { s with toks:=M }):
  wpAny (model X.prog X.w) A (call (.builtin "isinstance") [u,c]) Q E s:=by
 cases i with
 |non=>exact dR I G .non e h
 |bl y=>exact dR I G (.bl y) e h
 |int y=>exact dR I G (.int y) e h
 |str y=>exact dR I G (.str y) e h
 |ty n=>exact absurd rfl (hd n)
 |dk h1 _ _=>exact dR I G (.dK h1) e h
 |dt h1 _ _=>exact dR I G (.dT h1) e h
 |tup O _=>
  cases G
  obtain⟨its,_,⟨o,h1,h2,_⟩,_⟩:=I.tuple O;exact kia_one PySem.W.kitx_tuple I.kIn ⟨o,h1,h2⟩ e (λz=>nomatch z) h
 |lst hl _=>
  cases G
  obtain⟨its,_,⟨o,n,h1,h2,_⟩,_⟩:=I.list hl;exact kia_one PySem.W.kitx_list I.kIn ⟨o,h1,h2⟩ e (λz=>nomatch z) h
def xO (K:Frag)(d:D)(hd:∀n,d≠.ty n):
  PySem.W.kitOne K (.type (gE d)) (.type "int")=some (gE d == "int" || gE d == "bool")/\PySem.W.kitOne K (.type (gE d)) (.type "bool")=some (gE d == "bool")/\PySem.W.kitOne K (.type (gE d)) (.type "str")=some (gE d == "str") /\
   PySem.W.kitOne K (.type (gE d)) (.type "list")=some (gE d == "list")/\PySem.W.kitOne K (.type (gE d)) (.type "tuple")=some (gE d == "tuple"):=by
 cases d<;>(first|exact absurd rfl (hd _)|skip)
 all_goals (simp only[gE];refine⟨?_,?_,?_,?_,?_⟩<;>kernel_rfl)
def aC:bT X (.builtin "isinstance") (tM X.K ap):=by
 intro ac s σ H xs us Q I O q;obtain⟨B,ds,d,b,M,i,e,q⟩:=q;cases i with
 |nil=>cases e
 |cons i1 i=>cases i with
 |nil=>cases e
 |cons i2 i=>
  cases i2<;>try (cases e;done)
  cases i<;>try (cases e;done)
  rename_i dx n;obtain⟨T,u2,rfl,U,r2⟩:=rf O;cases r2
  simp only[ap]at e;split at e
  ·cases e
  ·rename_i ht;have hd:∀n,dx≠.ty n:=λn z=>by subst z;exact ht rfl
   obtain⟨k1,k2,k3,k4,k5⟩:=xO X.K dx hd;have G:∀ {k:Bool},PySem.W.kitOne X.K (.type (gE dx)) (.type n)=some k->Fin X.K B H (.bl k) false Q->wq X (call (.builtin "isinstance") [T,.type n]) (EP X ac σ Q) X.xe s:=λ{k} hk q=>
    uF I (i1.mono M) hd U hk λtk=>⟨.bl k,H,I.tok tk,rfl,q.one M (.bl k)⟩
   unfold pB at e;split at e
   ·rename_i z;subst z;cases e;exact G k1 q
   split at e
   ·rename_i z;subst z;cases e;exact G k2 q
   split at e
   ·rename_i z;subst z;cases e;exact G k3 q
   split at e
   ·rename_i z;subst z;cases e;exact G k4 q
   split at e
   ·rename_i z;subst z;cases e;exact G k5 q
   ·cases e
@[simp] def rZ (f:FE):FA:=λρ=>(f ρ).bind λx=>gU x.1
def pC (h:JE X e f):JI X tg e (rZ f):=by
 intro ac s σ H R I q;obtain⟨B,ρ,ds,sB,r,e',q⟩:=q;obtain⟨x,ex,es⟩:=oX e';obtain⟨xd,xb⟩:=x;cases xd<;>simp only[gU]at es<;>try (cases es;done)
 ·cases es
  refine wV h ac s σ H R I ⟨B,ρ,_,_,sB,r,ex,λv U N1 O i1 _=>?_⟩;cases i1 with
  |@tup a vs _ M hl=>
   refine⟨a,rfl,⟨vs,bf O.nh M⟩,q _ U N1 O λi H2 s2=>⟨λd ed=>?_,λG=>⟨vs,bf s2 M,by rw[hl.length];exact G⟩⟩⟩;obtain⟨v,T,iv⟩:=hl.get ed;refine⟨⟨vs,v,bf s2 M,T⟩,λy H3 hy=>?_⟩;obtain⟨rfl,hy⟩:=hy;have:=hy vs (bf s2 M);rw[T]at this;cases this;exact⟨N1,.refl s2,iv⟩
 ·cases es
  refine tX h ac s σ H R I ⟨B,ρ,_,_,sB,r,ex,λv U N1 O i1 _=>?_⟩;cases i1 with
  |@lst a vs _ M hl=>
   refine⟨a,rfl,⟨vs,O.nh.seq M⟩,q _ U N1 O λi H2 s2=>⟨λd ed=>?_,λG=>⟨vs,s2.seq M,by rw[hl.length];exact G⟩⟩⟩;obtain⟨v,T,iv⟩:=hl.get ed;refine⟨⟨vs,v,s2.seq M,T⟩,λy H3 hy=>?_⟩;obtain⟨rfl,hy⟩:=hy;have:=hy vs (s2.seq M);rw[T]at this;cases this;exact⟨N1,.refl s2,iv⟩
noncomputable def dJ (lo:Int)(n:Nat):LD:=(List.range n).map λ(k:Nat)=>.int (lo+(k:Int))
def sd {K:Frag}{B:Hp}(lo:Int)(n:Nat):kl K (Bt lo n) B (dJ lo n):=by
 intro i H s;unfold dJ;refine⟨λd ed=>?_,λhl=>by rw[vI,length_range]at hl;exact hl⟩;rw[vB]at ed;obtain⟨k,M,ed⟩:=oY ed;have hk:=vV M;obtain⟨G,hk⟩:=hk;rw[length_range]at G;rw[List.getElem_range]at hk;subst hk;subst ed;refine⟨G,λx H' hy=>?_⟩;obtain⟨rfl,rfl⟩:=hy;exact⟨B,.refl s,.int _⟩
@[simp] def dL (f:FE):FA:=λρ=>match f ρ with
 |some (.int j,_)=>if -1000<=j/\j<=1000 then some (dJ 0 j.toNat)else none
 |_=>none
def jD (hm:X.mg "range" = none)(h:JE X a f)(M:Gl X "range":=by rfl)(hs:starEach [a] X.env=[(false,eval a X.env)]:=by rfl):PI X tg (.Call (.Name "range" p) [a] [] pos) (By X.K (dL f)):=by
 refine PI.to (qk M hm (af h ah hs) hs) λσ H R q=>?_;obtain⟨B,ρ,ds,O,r,G,q⟩:=q;unfold dL at G;split at G
 ·rename_i j b' T;split at G
  ·rename_i hj;cases G
   refine⟨B,ρ,[.int j],O,r,by simp[aa,ag,T],λvs U N1 x1 i1=>?_⟩;cases i1 with
   |cons i1 i2=>
    cases i1;cases i2
    exact⟨j,rfl,by omega,by omega,q _ U N1 x1 λ_=>sd 0 j.toNat⟩
  ·cases G
 ·cases G
def mB (hm:X.mg "range" = none)(h:JE X a f)(G:Gl X "range":=by rfl)(hs:starEach [a] X.env=[(false,eval a X.env)]:=by rfl):JI X tg (.Call (.Name "range" p) [a] [] pos) (dL f) :=
 PI.to (jD hm h G hs) λσ H R ⟨B,ρ,ds,M,r,O,q⟩=>⟨B,ρ,ds,M,r,O,λJ H' N x h=>q J H' N x (h _)⟩
end
def eC (K:Frag)(x:Str)(st:Stmt):Prop:=∃(f:Addr)(fd:FuncData),yN K x x st f fd/\nsIn K mainGlobals x=some (some (.ref f))
def def_mk {K:Frag}{x:Str}{st:Stmt}{f:Addr}{oc:Value}{od an:Option Addr}{kf:Array (Option Value)}{kV doc pm cL ct:Value}(a:nsIn K mainGlobals x=some (some (.ref f)))
  (l:K.lookup f=some ⟨oc,od,.func (fnOf x x (dv st) (bX st) (aG st) .none kV doc pm an cL ct),kf⟩) (c:PySem.W.codeIn K cL x=true) (k:PySem.W.keepIn K (.ref f)=true):eC K x st:=⟨f,_,xu l c k,a⟩
section
variable {P:Program}{w:World}{K:Frag}{mg:SV}{base:Heap}
def eC.fn {x:Str}{st:Stmt}{N ps:LS}{k:Nat}{g:FS}{h:Heap}(F:eC K x st)(X:K.In h)(G:h.Ns mainGlobals mg)(S:FnScope N ps (aG st))
  (M:∀(kV doc pm:Value)(an:Option Addr)(cL ct:Value)(us:LU),us.length=ps.length->bindArgs (fnOf x x (dv st) (bX st) (aG st) .none kV doc pm an cL ct) ⟨us,[]⟩=pure (ps.zip us))
  (hb:∀(f:Addr)(cL:Value)(A:Around)(outer:List PySem.Env)(s:Shared)(H:Hp)(E:XK),dH k (A.deeper (envOfC x (aG st) s.heap.objs.size f cL))->lA (jh nM P w K mg base N x (aG st) f cL A outer s H E).nox (bX st) g):
  Fn P w K mg base (k+1) x (aY g ps.length (N.length - ps.length)):=by
 obtain⟨f,fd,O,a⟩:=F;exact⟨f,fd,ps,Ai O S (hb f),mg_of X G a,O.kp,O.binds M⟩
end
def Aq (H:Hp):Prop:=∀b,H b=none∨(∃o xs,H b=some (.frz o (.lst xs)))∨∃q,H b=some (.tbl q)
noncomputable def jE (M:List (Addr×Str))(G:Hp):Hp:=λb=>match M.lookup b with|some q=>some (.tbl q)|none=>G b
def dD (e:tabs.lookup b=some q):jE tabs G b=some (.tbl q):=by unfold jE;rw[e]
def eW (e:tabs.lookup b=none):jE tabs G b=G b:=by unfold jE;rw[e]
def q8 {P:Program}{w:World}{K:Frag}{mg mb:SV}{k:Nat}{fa a:Addr}{fd:FuncData}{x:Str}{sp:Sp}{M:Shared}{vs:LU}{ns:LI}(O:List (Addr×Str))
  (ht:∀b q,O.lookup b=some q->M.heap.get? b=some (PySem.W.tabObj #[])/\isCodeTable M.heap b) (ET:PySem.W.noTabs K=true)
  (KX:K.In M.heap) (DJ:M.heap.Ns mainGlobals mg) (hb:M.heap.Ns builtinsNs mb) (EU:∀x:Str,x ≠ "__name__"->mb x=bootBuiltins x) (CO:M.heap.NoLimit)
  (EV:∃bm ob,mg "__builtins__" = some (.ref bm)/\bm≠builtinsNs/\M.heap.get? bm=some ob/\ob.cls=.type "module"/\ob.dict=some builtinsNs/\ob.data=.plain) (hg:M.gens=#[])
  (ha:M.heap.get? a=some { cls:=.type "list",data:=.seq vs.toArray }) (hi:IntsAre vs ns) (hl:ns.length<=sizeLine) (hr:dH k callerA)
  (F:∀base:Heap,K.In base->base.Ns mainGlobals mg->iN P w K mg base nM k fa fd [x] sp) (Bm:∀(s:Shared)(u:Value),BindsTo s fd ⟨[u],[]⟩ [(x,u)])
  (B8:∀H:Hp,(∀b q,O.lookup b=some q->H b=some (.tbl q))->fz K H a (ns.map V.int)->sp [.ref a] H (λv _=>v=.bl true) λ_ _ _=>False):
  codeAny (model P w) callerA (.call (.ref fa) ⟨[.ref a],[]⟩) (λr s'=>r=.ok (.ret (.bool true))/\OldK M.heap s'.heap/\s'.os=M.os/\AllBare s'.gens) M:=by
 have rv:=L2.gj hi;have CP:=hi.length;have Bn:∀H:Hp,Aq H->(∀b q,O.lookup b=some q->H b=some (.tbl q))->fz K H a (ns.map V.int)->gL P w H M.heap->(∀b q,H b=some (.tbl q)->M.heap.get? b=some (PySem.W.tabObj #[])/\isCodeTable M.heap b) ->
   (∀b o u,H b=some (.frz o u)->b=a)->(∀b o u,H b=some (.frz o u)->K.lookup b=none) ->
   codeAny (model P w) callerA (.call (.ref fa) ⟨[.ref a],[]⟩) (λr s'=>r=.ok (.ret (.bool true))/\OldK M.heap s'.heap/\s'.os=M.os/\AllBare s'.gens) M:=by
  intro H hO hT hS hok hA hB hK;have EW:∀ {b:Addr}{o:Obj},M.heap.get? b=some o->(o.cls≠.none)->(o.cls≠.type "list")->H b=none:=λ{b o} e d d'=>by
   rcases hO b with q|⟨ob,xs,q⟩|⟨u,q⟩
   ·exact q
   ·have e':b=a:=hB b _ _ q;subst e';rw[ha]at e;cases e;exact absurd rfl d'
   ·rw[(hA b u q).1]at e;cases e;exact absurd rfl d
  have EX:∀ {b:Addr}{o:Obj}{es:Array DictEntry}{ep:Nat},M.heap.get? b=some o->o.data=.dict es ep->H b=none:=λ{b o es ep} e d=>by
   rcases hO b with q|⟨ob,xs,q⟩|⟨u,q⟩
   ·exact q
   ·have e':b=a:=hB b _ _ q;subst e';rw[ha]at e;cases e;cases d
   ·rw[(hA b u q).1]at e;cases e;cases d
  have BF:∀ {b:Addr}{m:SV},M.heap.Ns b m->(lT M.heap H).Ns b m:=λ{b m} ⟨o,es,ep,e,d,r⟩=>⟨o,es,ep,ju e (EX e d),d,r⟩;have DK:K.In (lT M.heap H):=λb o e=>ju (KX b o e) (by
   rcases hO b with q|⟨ob,xs,q⟩|⟨u,q⟩
   ·exact q
   ·rw[hK b _ _ q]at e;cases e
   ·have z:=(hA b u q).1;rw[KX b o e]at z;cases z
    have:=uS ET _ (PySem.W.mem_of_lookupK e);simp at this)
  have hM:Mod K mg (lT M.heap H):=⟨DK,BF DJ,⟨mb,BF hb,EU⟩,let ⟨mc,h1,h2⟩:=CO;⟨mc,BF h1,h2⟩,by
   obtain⟨bm,ob,b1,b2,b3,b4,b5⟩:=EV;exact⟨bm,ob,b1,b2,ju b3 (EW b3 (by rw[b4];exact λz=>nomatch z) (by rw[b4];intro z;injection z with z;exact absurd z (by decide))),b4,b5⟩⟩
  have e0:Env0 P w K mg (lT M.heap H) callerA [] M H:=⟨rfl,hM,λb o e=>tQ e,Nat.le_of_eq (qh _ _),trivial,λb hb=>absurd (show b∈([]:List Addr)from hb) (by simp),hok,.of_eq hg⟩;refine codeAny_mono ((F _ DK (BF DJ)).run callerA [] M H ⟨[.ref a],[]⟩ [.ref a] [.ref a] _ _ hr e0 (Bm M (.ref a)) (.cons rfl .nil) (B8 H hT hS)) λr s' h=>?_;cases r with
  |error e=>exact False.elim h
  |ok fl=>
   cases fl with
   |next=>exact False.elim h
   |brk=>exact False.elim h
   |cont=>exact False.elim h
   |ret u=>
    obtain⟨v,H',os,bare,un,Bo,r',q⟩:=h;have q':v=.bl true:=q;subst q';obtain rfl:u=Value.bool true:=r';have kp:∀b o,H b=none->M.heap.get? b=some o->s'.heap.get? b=some o:=λb o n e=>un.keep b o e n (by intro z;exact absurd (show b∈([]:List Addr)from z) (by simp)) (by simp);refine⟨rfl,⟨λb o e=>?_,λb o e=>un.there b o e (by simp)⟩,os,bare⟩;rcases hO b with z|⟨ob,xs,z⟩|⟨u,z⟩
    ·exact .inl (kp b o z e)
    ·have z2:=un.frzs b ob _ z;obtain⟨e1,_⟩:=hok b _ z;obtain⟨e2,_⟩:=Bo b _ z2;rw[e]at e1;cases e1;exact .inl e2
    ·obtain⟨e1,e2⟩:=hA b u z;rw[e]at e1;cases e1;obtain⟨ps,e3,_⟩:=Bo b _ (un.tbls b u z);exact .inr (.inl ⟨e2,rfl,#[],ps,rfl,by simpa using e3⟩)
 have yP:∀q,O.lookup a≠some q:=λq z=>by
  have:=(ht a q z).1;rw[ha]at this;cases this
 have ta:O.lookup a=none:=by
  cases z:O.lookup a with
  |none=>rfl
  |some q=>exact absurd z (yP q)
 have U:∀(G:Hp) b q,O.lookup b=some q->bN P w (jE O G) M.heap b (.tbl q):=λG b q z=>⟨#[],(ht b q z).1,trivial,λpos cv c=>by cases c⟩;cases hk:K.lookup a with
 |some o=>
  have e:=KX a o hk;rw[ha]at e;cases e
  refine Bn (jE O λ_=>none) (λb=>?_) (λb q z=>dD z) (.inr ⟨_,vs.toArray,_,hk,rfl,rfl,rfl,by rw[vH,CP];exact hl,by simpa using rv⟩) (λb u z=>?_) (λb q z=>?_) (λb o u z=>?_) λb o u z=>?_
  all_goals cases T:O.lookup b with
   |none=>first|exact .inl (eW T)|(rw[eW T]at z;cases z)
   |some q'=>first|exact .inr (.inr ⟨q',dD T⟩)|(rw[dD T]at z;cases z;done)|(rw[dD T]at z;cases z;first|exact U _ b _ T|exact ht b _ T)
 |none=>
  refine Bn (jE O λb=>if b=a then some (.frz { cls:=.type "list",data:=.seq vs.toArray } (.lst (ns.map V.int)))else none) (λb=>?_) (λb q z=>dD z) (.inl (.inr ⟨{ cls:=.type "list",data:=.seq vs.toArray },by rw[eW ta,if_pos rfl]⟩)) (λb u z=>?_) (λb q z=>?_) (λb o u z=>?_) λb o u z=>?_
  all_goals cases T:O.lookup b with
   |some q'=>first|exact .inr (.inr ⟨q',dD T⟩)|(rw[dD T]at z;cases z;done)|(rw[dD T]at z;cases z;first|exact U _ b _ T|exact ht b _ T)
   |none=>
    first
    |rw[eW T]at z
    |rw[eW T]
    by_cases hb:b=a
    ·first
     |rw[if_pos hb]at z
     |rw[if_pos hb]
     first
     |exact .inr (.inl ⟨_,_,rfl⟩)
     | (cases z;subst hb;exact⟨ha,by rw[vI];exact hl,vs,_,rv,ha⟩)
     |exact hb
     | (rw[hb];exact hk)
     |cases z
    ·first
     | (rw[if_neg hb]at z;cases z)
     |exact .inl (if_neg hb)
noncomputable def lH (L:List (Str×Option (Addr×Addr))):List (Addr×Str):=L.filterMap λp=>p.2.map λq=>(q.2,xB p.1)
structure jt (K:Frag)(L:List (Str×Option (Addr×Addr))):Prop where
 names:L=mi.map λx=>(x,PySem.W.tabIn K x)
 apart:((lH L).map (·.1)).Nodup
 none:PySem.W.noTabs K=true
theorem gy {α G:Type}[BEq α][LawfulBEq α]:∀ {l:List (α×G)}{a:α}{b:G},(l.map (·.1)).Nodup->(a,b)∈l->l.lookup a=some b
 | (c,d)::l,a,b,nd,h=>by
  rw[lookup_cons];rcases mem_cons.mp h with e|h
  ·cases e;simp
  ·have ne:a≠c:=λz=>(nodup_cons.mp nd).1 (by rw[←z];exact mem_map.mpr ⟨(a,b),h,rfl⟩);rw[show(a == c)=false by simpa using ne];exact gy (nodup_cons.mp nd).2 h
theorem fR {α G:Type}[BEq α][LawfulBEq α]:∀ {l:List (α×G)}{a:α}{b:G},l.lookup a=some b->(a,b)∈l
 | (c,d)::l,a,b,h=>by
  rw[lookup_cons]at h;cases e:a == c with
  |true=>rw[e]at h;cases h;rw[eq_of_beq e];exact mX
  |false=>rw[e]at h;exact mZ _ (fR h)
def jt.tb {K:Frag}{L:List (Str×Option (Addr×Addr))}(F:jt K L){H:Hp}(h:∀b q,(lH L).lookup b=some q->H b=some (.tbl q)):Tb K H:=λx hx c P e=>by
 refine h P (xB x) (gy F.apart ?_);rw[F.names];exact mem_filterMap.mpr ⟨(x,PySem.W.tabIn K x),mem_map.mpr ⟨x,hx,rfl⟩,by rw[e];rfl⟩
def tab_no {K:Frag}{x:Str}(e:nsIn K mainGlobals x=some none):PySem.W.tabIn K x=none:=by unfold PySem.W.tabIn;rw[e]
def tabs_fit {K:Frag}{G M t2 O:Option (Addr×Addr)}(h0:PySem.W.tabIn K "in_order" = G)(h1:PySem.W.tabIn K "has_seal" = M)(h2:PySem.W.tabIn K "is_first_death" = t2)(h3:PySem.W.tabIn K "bases_by" = O)
  (T:((lH [("in_order",G),("has_seal",M),("is_first_death",t2),("bases_by",O)]).map (·.1)).Nodup) (U:PySem.W.noTabs K=true):jt K [("in_order",G),("has_seal",M),("is_first_death",t2),("bases_by",O)] :=
 ⟨by subst h0;subst h1;subst h2;subst h3;rfl,T,U⟩
def walkD {l:PySem.W.OpenLaw}{q:Program}{O:LS}{XP:SV->Heap->Prop}{YP:World->Heap->Prop}{d:DefRec}{K:Params->Frag}{k:Nat}{x:Str}{f:LD->OB}{L:List (Str×Option (Addr×Addr))}(hn:l.most=some 63)(CF:d.params.defaults=[])(hr:dH k callerA)
  (hY:∀(w:World)(h:Heap),YP w h->(K w.params).In h) (hT:∀w:World,jt (K w.params) L) (hD:(L.all λp=>p.2.isNone || ((recsOf q).find? λe=>e.name == p.1).isSome)=true)
  (F:∀(w:World)(mg:SV)(fa:Addr)(h:Heap),(K w.params).In h->h.Ns mainGlobals mg->mg d.name=some (.ref fa) ->
   ∃fd:FuncData,(∀(s:Shared)(u:Value),BindsTo s fd ⟨[u],[]⟩ [(x,u)])/\∀base:Heap,(K w.params).In base->base.Ns mainGlobals mg->iN l.prog w (K w.params) mg base nM k fa fd [x] (wl (K w.params) f))
  (ht:∀ns:LI,ns.length<=63->∃b,f [.lst (ns.map .int)]=some (.bl true,b)):PySem.W.WalkO q O XP YP l.row.toRowW d [] (λf vs=>PySem.call f vs):=by
 refine Att.ma hn CF λw s₀ s₁ mg mb fa o pm cd doc a vs ns G Y ho hd wD hmg yM U M hg=>?_;have KX:=hY w _ Y;obtain⟨fd,hb,hF⟩:=F w mg fa _ KX G.T.g hmg;refine q8 (lH L) (λb u e=>?_) (hT w).none KX G.T.g G.T.b G.T.builtins G.T.nolimit G.T.bmain hg yM U (vR M (by decide)) hr hF hb λH hH hS=>?_
 ·obtain⟨p,hp,e2⟩:=mem_filterMap.mp (fR e);obtain⟨⟨c,P⟩,e3,e4⟩:=oY e2;cases e4
  have CQ:=uS hD p hp;rw[e3]at CQ;rw[Option.isNone_some,Bool.false_or]at CQ;obtain⟨r,EY⟩:=isSome_iff_exists.mp CQ;have EZ:PySem.W.tabIn (K w.params) p.1=some (c,P):=by
   rw[(hT w).names]at hp;obtain⟨y,_,rfl⟩:=mem_map.mp hp;exact e3
  obtain⟨h1,h2⟩:=PySem.W.tab_of G.T KX EY EZ;exact⟨h2,(h1.tab h2).isCodeTable⟩
 ·obtain⟨b,e⟩:=ht ns M;exact⟨H,_,_,b,⟨.refl H,(hT w).tb hH⟩,.cons (.lst hS (.flat rfl)) .nil,e,λv H' N x' i' _=>by cases i';rfl⟩
def eC.law {P:Program}{w:World}{K:Frag}{mg:SV}{x y:Str}{st:Stmt}{N:LS}{k:Nat}{g:FS}{h:Heap}{T:Addr}(F:eC K x st)(X:K.In h)(G:h.Ns mainGlobals mg)(M:mg x=some (.ref T))(S:FnScope N [y] (aG st))
  (O:∀(kV doc pm:Value)(an:Option Addr)(cL ct:Value)(u:Value),bindArgs (fnOf x x (dv st) (bX st) (aG st) .none kV doc pm an cL ct) ⟨[u],[]⟩=pure [(y,u)])
  (hb:∀(base:Heap),K.In base->base.Ns mainGlobals mg->∀(f:Addr)(cL:Value)(A:Around)(outer:List PySem.Env)(s:Shared)(H:Hp)(E:XK),dH k (A.deeper (envOfC x (aG st) s.heap.objs.size f cL))->lA (jh nM P w K mg base N x (aG st) f cL A outer s H E).nox (bX st) g):
  ∃fd:FuncData,(∀(s:Shared)(u:Value),BindsTo s fd ⟨[u],[]⟩ [(y,u)])/\∀base:Heap,K.In base->base.Ns mainGlobals mg->iN P w K mg base nM (k+1) T fd [y] (wl K (aY g 1 (N.length - 1))):=by
 obtain⟨f,fd,U,a⟩:=F;have e:=M.symm.trans (mg_of X G a);cases e
 refine⟨fd,λs u=>?_,λbase kb nb=>Ai U S (hb base kb nb _)⟩;obtain⟨oc,od,kV,doc,pm,an,cL,ct,kf,rfl,lk,wD⟩:=U.ex;exact .of_eq (O kV doc pm an cL ct u)
section
variable {X:Cx}{a b e:Expr}{pos:Pos}{x:Str}{p:Pos}
@[simp] noncomputable def uG:D->D->OB
 |.lst xs,.lst ys=>if xs.length+ys.length<=sizeLine then some (.lst (xs++ys),true)else none
 |_,_=>none
def xP:cF X (binaryOp .Add) (rD X.K uG):=by
 intro ac s σ H x y v u Q I rx ry q;obtain⟨B,dx,dy,d,bb,T,ix,iy,O,q⟩:=q;cases ix<;>try (cases O;done)
 all_goals (cases iy<;>try (cases O;done))
 rename_i l vs ds h hl l' ws es h' M;simp only[uG]at O;split at O
 ·rename_i hz;cases O
  cases rx
  cases ry
  obtain⟨its,r1,p1,z1⟩:=I.list (T.seq h);obtain⟨G,r2,p2,z2⟩:=I.list (T.seq h');obtain⟨⟨c1,d1,t1,s1⟩,o1,e1,n1,k1⟩:=p1.isList;obtain⟨⟨c2,d2,t2,s2⟩,o2,e2,n2,k2⟩:=p2.isList;dsimp only at e1 k1 e2 k2;subst e1;subst k1;subst e2;subst k2;have U:its.toArray.size+G.toArray.size<=sizeLine:=by
   rw[vH,vH,←r1.length,←r2.length,hl.length,M.length];exact hz
  have ea:its.toArray++G.toArray=(its++G).toArray:=by simp
  refine concat_meets ⟨_,o1,rfl⟩ ⟨_,o2,rfl⟩ noFill_list_add seq_list_add PySem.F.slot_list_add PySem.F.entry_list_add (PySem.F.args_list_add_2 _ _) (list_addW l l' its.toArray G.toArray n1 n2 d1 d2 s1 s2 U) ⟨o1,o2,?_⟩;rw[ea];have xt:=Ext.laid (o:=.lst (vs++ws)) T I.fresh;have il:=(hl.append M).mono xt.bn;exact⟨.ref s.heap.objs.size,_,I.lnew (t':=s.toks) (r1.append r2) (by rw[vA,hl.length,M.length];exact hz),rfl,q _ _ _ xt (.lst (fz.of aM) il) λ_=>⟨_,_,_,rfl,rfl,I.fresh,aM,il⟩⟩
 ·cases O
@[simp] noncomputable def uH:D->D->OB
 |.tup xs,.tup ys=>if xs.length+ys.length<=sizeLine/\xs.isEmpty=false then some (.tup (xs++ys),false)else none
 |_,_=>none
def xQ:cF X (binaryOp .Add) (rD X.K uH):=by
 refine fP ug λx y H Q q=>?_;obtain⟨B,dx,dy,d,bb,O,ix,iy,M,q⟩:=q;cases ix<;>try (cases M;done)
 all_goals (cases iy<;>try (cases M;done))
 rename_i l vs ds h hl l' T es h' G;simp only[uH]at M;split at M
 ·rename_i hz;cases M
  have l1:=hl.length;have l2:=G.length;refine⟨l,l',vs,T,rfl,rfl,bf O h,bf O h',λz=>?_,by omega,λz=>?_,λ_ pp hp=>?_⟩
  ·subst z;cases hl
   simp at hz
  ·subst z;cases G
   rw[append_nil]at q;exact q.one O (.tup h hl)
  ·have U:=Ext.laid (o:=.tup (vs++T)) O hp;exact q _ _ _ U (.tup (eS.of aM) ((hl.append G).mono U.bn)) (by simp)
 ·cases M
@[simp] noncomputable def se:D->D->OB
 |.bl i,.int j=>some (.int ((if i=true then 1 else 0)+j),false)
 |.int i,.bl j=>some (.int (i+b2i j),false)
 |_,_=>none
def xR:cF X (binaryOp .Add) (rD X.K se):=by
 intro ac s σ H x y v u Q I M O q;obtain⟨B,dx,dy,d,bb,T,U,iy,G,q⟩:=q;cases U<;>try (cases G;done)
 all_goals (cases iy<;>try (cases G;done))
 ·simp only[se]at G;cases G
  cases M
  obtain⟨t,rfl⟩:=O;exact IntBool.add_bool_int ⟨.int _,H,I.tok _,⟨_,rfl⟩,q.one T (.int _)⟩
 ·simp only[se]at G;cases G
  exact qm ac s σ H _ _ v u Q I M O ⟨_,_,rfl,rfl,q.one T (.int _)⟩
@[simp] noncomputable def bG:D->D->OB
 |.int i,.int j=>some (.int (i+j),false)
 |.str i,.str j=>if i.length+j.length<=sizeLine then some (.str (i++j),false)else none
 |.lst xs,.lst ys=>if xs.length+ys.length<=sizeLine then some (.lst (xs++ys),true)else none
 |.tup xs,.tup ys=>if xs.length+ys.length<=sizeLine/\xs.isEmpty=false then some (.tup (xs++ys),false)else none
 |.bl i,.int j=>some (.int ((if i=true then 1 else 0)+j),false)
 |.int i,.bl j=>some (.int (i+b2i j),false)
 |_,_=>none
def bL:cF X (binaryOp .Add) (rD X.K bG):=by
 refine fP (r:=rD X.K (tN p8 (tN uG (tN uH se)))) (jA uB (jA xP (jA xQ xR))) λx y H Q q=>?_;obtain⟨B,dx,M,d,O,T,U,iy,G,q⟩:=q;refine⟨B,dx,M,d,O,T,U,iy,?_,q⟩;cases dx<;>try (cases G;done)
 all_goals (cases M<;>try (cases G;done))
 all_goals (simp[bG]at G;simp[tN,p8,uG,uH,se,G])
@[simp] def Ci:D->Option Bool
 |.bl b=>some b
 |_=>none
def nX:LD->Option (List Bool)
 |[]=>some []
 |d::ds=>(Ci d).bind λb=>(nX ds).map (b :: ·)
@[simp] def Ar:nX []=some []:=rfl
@[simp] def q9 (d:D)(ds:LD):nX (d::ds)=(Ci d).bind λb=>(nX ds).map (b :: ·):=rfl
theorem pD {K:Frag}{B:Hp}:∀ {vs:LV}{ds:LD}{bs:List Bool}{its:LU},L2.aX vs its->IsL K B vs ds->nX ds=some bs->its=bs.map Value.bool
 |_,_,_,_,.nil,.nil,e=>by cases e;rfl
 |_,_,_,_,.cons r M,.cons i O,e=>by
  rw[q9]at e;obtain⟨b,G,e⟩:=oX e;obtain⟨bs,T,e⟩:=oY e;subst e;cases i<;>simp only[Ci]at G<;>try (cases G;done)
  cases G
  cases r
  rw[pD M O T];rfl
@[simp] def iz:LD->OB
 |[.lst ds]=>(nX ds).map λbs=>(.bl (bs.all id),false)
 |_=>none
def mC (hc:X.calm=true:=by rfl):bT X (.builtin "all") (tM X.K iz):=by
 intro ac s σ H xs us Q I rs q;obtain⟨B,ds,d,bb,sB,i,G,q⟩:=q;match ds,i,G with
 |[.lst es],.cons i1 .nil,G=>
  obtain⟨bs,eb,G⟩:=oY G;cases G
  obtain⟨u1,rfl,r1⟩:=ku rs;cases i1 with
  |@lst l vs _ h hl=>
   cases r1
   obtain⟨its,rv,p1,z1⟩:=I.list (sB.seq h);have ei:=pD rv hl eb;have T:l<s.heap.objs.size:=by obtain⟨_,M,_⟩:=p1.isList;exact vX M
   refine call_all_walk (wpAny_pyIter_list p1.isList ⟨_,_,_,_,_,_,λj=>(bs[j]?).getD true,rfl,Walks.list (A:=X.A.in1) (I.ok.hd hc) s.heap.objs.size l (vS T) its.toArray,⟨⟨_,vY _ rfl,rfl,rfl⟩,p1.isList.push _⟩,λj v s' Q' E' hP U=>?_,λh' tk hk=>?_⟩)
   ·have O:its[j]? = some v:=by simpa using hP
    rw[ei,vB]at O;obtain⟨c,e1,e2⟩:=oY O;subst e2;dsimp only at U;rw[e1]at U;exact wpAny_truthy_bool U
   ·have ea:((List.range its.toArray.size).all λj=>(bs[j]?).getD true)=bs.all id:=by
     rw[vH,ei,vI];exact LSm.range_all bs
    rw[ea];refine⟨.bl _,H,I.kept λc o M=>?_,rfl,q.one sB (.bl _)⟩;exact hk c o (λhm=>by rw[uU hm]at M;exact lt_irrefl _ (vX M)) (vZ _ M)
end
noncomputable def B1 (z:Str):It:=⟨λi _=>i<z.cps.size,λi H v H'=>H'=H/\∃c,z.cps[i]? = some c/\v=.str ⟨#[c]⟩,λi _=>z.cps.size<=i⟩
def mD {P:Program}{w:World}{K:Frag}{tg:Expr}(z:Str)(t:Tok)(it:Addr):Turn P w K tg (B1 z) [it] it (λi h=>h.IsStrIter it "str_ascii_iterator" z t i) where
 mem:=mem_singleton.mpr rfl
 obj:=λi h st b hb=>by
  have U:=uU hb;subst U;obtain⟨o,M,_,d1⟩:=st;exact⟨o,M,λv zz=>by rw[d1]at zz;cases zz⟩
 keep:=λi h h' st k=>let ⟨o,M,r⟩:=st;⟨o,k it (mem_singleton.mpr rfl) o M,r⟩
 item:=by
  intro X hP hw hK hc i ac s σ H E I T st hg;subst hP hw hK;have G:i<z.cps.size:=hg;obtain⟨f0,f1,f2,f3,f4,f5⟩:=T it (mem_singleton.mpr rfl);refine wpAny_pyNext_ascii_item st (c:=z.cps[i]) (by simp[G]) λh' O sb=>?_;obtain⟨o,M,c1,d1⟩:=id O;exact⟨_,rfl,lX (s:={ s with heap:=h',toks:=s.toks+1 }) M c1 d1 (by decide) ⟨.str ⟨#[z.cps[i]]⟩,H,I.turned (λb o hb e2=>(sb.2 b hb).trans e2) f0 f1 f3 f4 f5,⟨_,rfl⟩,⟨rfl,_,by simp[G],rfl⟩,O,λb hb=>(T b hb).1⟩⟩
 done:=by
  intro X hP hw hK hc i ac s σ H E I T st hg;subst hP hw hK;have G:z.cps.size<=i:=hg;obtain⟨f0,f1,f2,f3,f4,f5⟩:=T it (mem_singleton.mpr rfl);exact wpAny_pyNext_ascii_end (I.ok.hd hc) st (by simp;omega) λh' U=>⟨rfl,I.turned (t':=s.toks) (λb o hb e2=>U b o hb e2) f0 f1 f3 f4 f5⟩
 self:=λ_ _ _ _ _ st h=>wpAny_pyIter_striter_ascii st h
def mE {P:Program}{w:World}{K:Frag}{tg:Expr}(z:Str)(t:Tok)(it:Addr):Turn P w K tg (B1 z) [it] it (λi h=>h.IsStrIter it "str_iterator" z t i) where
 mem:=mem_singleton.mpr rfl
 obj:=λi h st b hb=>by
  have U:=uU hb;subst U;obtain⟨o,M,_,d1⟩:=st;exact⟨o,M,λv zz=>by rw[d1]at zz;cases zz⟩
 keep:=λi h h' st k=>let ⟨o,M,r⟩:=st;⟨o,k it (mem_singleton.mpr rfl) o M,r⟩
 item:=by
  intro X hP hw hK hc i ac s σ H E I T st hg;subst hP hw hK;have G:i<z.cps.size:=hg;obtain⟨f0,f1,f2,f3,f4,f5⟩:=T it (mem_singleton.mpr rfl);refine wpAny_pyNext_wide_item st (c:=z.cps[i]) (by simp[G]) λh' O sb=>?_;obtain⟨o,M,c1,d1⟩:=id O;exact⟨_,rfl,lX (s:={ s with heap:=h',toks:=s.toks+1 }) M c1 d1 (by decide) ⟨.str ⟨#[z.cps[i]]⟩,H,I.turned (λb o hb e2=>(sb.2 b hb).trans e2) f0 f1 f3 f4 f5,⟨_,rfl⟩,⟨rfl,_,by simp[G],rfl⟩,O,λb hb=>(T b hb).1⟩⟩
 done:=by
  intro X hP hw hK hc i ac s σ H E I T st hg;subst hP hw hK;have G:z.cps.size<=i:=hg;obtain⟨f0,f1,f2,f3,f4,f5⟩:=T it (mem_singleton.mpr rfl);exact wpAny_pyNext_wide_end (I.ok.hd hc) st (by simp;omega) λh' U=>⟨rfl,I.turned (t':=s.toks) (λb o hb e2=>U b o hb e2) f0 f1 f3 f4 f5⟩
 self:=λ_ _ _ _ _ st h=>wpAny_pyIter_striter_wide st h
section
variable {X:Cx}{a b e:Expr}{pos:Pos}{x:Str}{p:Pos}{tg:Expr}
def sf {l:Expr}{tl:TE}(hl:PE X l tl):PI X tg l (λσ H R=>tl σ H λx G=>∃z,x=.str z/\R (B1 z) G):=by
 intro ac s σ H R I h;refine bV (hl ac s σ H _ I h) λv s1 ⟨x,G,M,O,T⟩=>?_;obtain⟨z,rfl,q⟩:=T;obtain⟨t,rfl⟩:=O;have fp:∀b∈[s1.heap.objs.size],jg X ac G b:=λb hb=>by
  rw[uU hb];exact M.fpOk (vT _) (M.hok.fresh (vT _))
 cases ha:z.cps.all (· < 128) with
 |true=>exact wpAny_pyIter_ascii ha ⟨_,[s1.heap.objs.size],_,_,G,rfl,M.kept (t':=s1.toks) λb o e=>vZ _ e,mD z t _,⟨_,vY _ rfl,rfl,rfl⟩,fp,q⟩
 |false=>exact wpAny_pyIter_wide ha ⟨_,[s1.heap.objs.size],_,_,G,rfl,M.kept (t':=s1.toks) λb o e=>vZ _ e,mE z t _,⟨_,vY _ rfl,rfl,rfl⟩,fp,q⟩
def mF (z:Str):LD:=z.cps.toList.map λc=>.str ⟨#[c]⟩
def sg {K:Frag}{B:Hp}(z:Str):kl K (B1 z) B (mF z):=by
 intro i H s;refine⟨λd ed=>?_,λhl=>by unfold mF at hl;show z.cps.size<=i;simpa using hl⟩;unfold mF at ed;rw[vB]at ed;obtain⟨c,O,rfl⟩:=oY ed;have G:z.cps[i]? = some c:=by simpa using O
 refine⟨(Array.getElem?_eq_some_iff.mp G).1,λv H' hy=>?_⟩;obtain⟨rfl,T,M,rfl⟩:=hy;rw[G]at M;cases M;exact⟨B,.refl s,.str _⟩
@[simp] def xS:D->Option LD
 |.lst ds=>some ds
 |.tup ds=>some ds
 |.str z=>some (mF z)
 |_=>none
@[simp] def dO (f:FE):FA:=λρ=>(f ρ).bind λx=>xS x.1
def eK (h:JE X e f):JI X tg e (dO f):=by
 intro ac s σ H R I q;obtain⟨B,ρ,ds,G,r,M,q⟩:=q;obtain⟨O,ex,es⟩:=oX M;obtain⟨xd,xb⟩:=O;cases xd with
 |lst l=>exact pC h ac s σ H R I ⟨B,ρ,ds,G,r,by unfold rZ;rw[ex];exact es,q⟩
 |tup l=>exact pC h ac s σ H R I ⟨B,ρ,ds,G,r,by unfold rZ;rw[ex];exact es,q⟩
 |str z=>
  cases es
  refine sf h ac s σ H R I ⟨B,ρ,_,_,G,r,ex,λv T N1 U i1 _=>?_⟩;cases i1
  exact⟨z,rfl,q _ T N1 U (sg z)⟩
 |_=>cases es
def uI:qS X (λx lo hi H Q=>∃z,x=.str z/\z.length<=sizeLine/\Q (.str (Txt.slice z lo hi)) H):=by
 intro ac s σ H x v vl U lo hi sl Q I T hs pl O h;obtain⟨z,rfl,hz,q⟩:=h;obtain⟨t,rfl⟩:=T;have G:∀lo hi,Q (.str (Txt.slice z lo hi)) H->(Txt.slice z lo hi).length<=sizeLine/\∀t' k,EP X ac σ Q (.str (Txt.slice z lo hi) t') { s with toks:=k }:=λlo hi q=>
  ⟨vR (Txt.slice_le z _ _) hz,λt' k=>⟨.str _,H,I.tok k,⟨t',rfl⟩,q⟩⟩
 refine⟨"str",_,PySem.F.slot_str_getitem.lookup,typeIs_str _ _ _,?_⟩;cases pl with
 |none=>
  cases O with
  |none=>exact wpAny_getItem_str_slice (l:=none) (u:=none) (st:=none) hs rfl (post_val_or_str (G _ _ q))
  |int j M=>exact wpAny_getItem_str_slice (l:=none) (u:=some (j,M)) (st:=none) hs rfl (post_val_or_str (G _ _ q))
 |int i ti=>
  cases O with
  |none=>exact wpAny_getItem_str_slice (l:=some (i,ti)) (u:=none) (st:=none) hs rfl (post_val_or_str (G _ _ q))
  |int j M=>exact wpAny_getItem_str_slice (l:=some (i,ti)) (u:=some (j,M)) (st:=none) hs rfl (post_val_or_str (G _ _ q))
def qA {A:Around}{E:QV}{s:Shared}{prog:Program}{w:World}{t sl:Addr}{items:AV}{vl U:Value}{lo hi:OI}{Q:QV}(G:IsTup s.heap t items)(hs:s.heap.IsSliceOf sl vl U .none)(pl:IsPart vl lo)(pu:IsPart U hi)
  (h0:HT.cu items.size 0 lo=0) (h1:HT.cu items.size items.size hi=items.size) (h:Q (.ref t) s):wpAny (model prog w) A (getItem (.ref t) (.ref sl)) Q E s:=by
 obtain⟨os,M,O,CC⟩:=id hs
 have hT:s.TypeIs (.ref sl) "slice":=⟨os,M,O⟩
 unfold getItem
 try with_reducible refine wpAny_holding ?_
 first|refine wX (wY ?_)|skip
 refine wX (wpAny_sequenceKey G.typeIs (by decide) ?_)
 refine wX (wpAny_callSpecial?_slot (name:=Str.ofString "__getitem__") G.typeIs PyProof.Rows.slot_tuple_getitem (wpAny_call_entry PyProof.Rows.slot_tuple_getitem G.typeIs entry_tuple_getitem ?_ (args_tuple_getitem _ _)))
 show wpAny _ _ (Builtin.Tuple.tupleItemsOf (.ref t)>>=_) _ _ s
 refine wX (tupleItemsOf_ G ?_)
 refine wX (wpAny_typeOf hT ?_)
 rw[if_pos (by decide)]
 refine wX (HT.eU hs pl pu ?_)
 have T:(((HT.cu items.size 0 lo:Nat):Int) == 0 && (1:Int) == 1 && (HT.cu items.size items.size hi - HT.cu items.size 0 lo) == items.size)=true:=by
  rw[h0,h1];simp
 show wpAny _ _ (if(((HT.cu items.size 0 lo:Nat):Int) == 0 && (1:Int) == 1 && (HT.cu items.size items.size hi - HT.cu items.size 0 lo) == items.size)=true then _ else _) _ _ s
 rw[if_pos T]
 refine wX ?_
 unfold Builtin.Tuple.tupleIsExact
 refine wX (wpAny_typeOf G.typeIs (wY ?_))
 show wpAny _ _ (if((Value.type "tuple") == Value.type "tuple")=true then _ else _) _ _ s
 rw[if_pos (by decide)]
 refine wX (wpAny_rule ?_)
 exact wY ⟨_,rfl,wY h⟩
def uJ:qS X (λx lo hi H Q=>∃a xs,x=.ref a/\eS X.K H a xs/\HT.cu xs.length 0 lo=0/\HT.cu xs.length xs.length hi=xs.length/\Q (.ref a) H):=by
 intro ac s σ H x v vl U lo hi sl Q I O hs pl T h;obtain⟨a,xs,rfl,hx,h0,h1,q⟩:=h;cases O
 obtain⟨its,r,M,hz⟩:=I.tuple hx;have G:its.toArray.size=xs.length:=by rw[vH];exact r.length.symm
 refine⟨"tuple",_,PyProof.Rows.slot_tuple_getitem.lookup,M.typeIs,?_⟩;exact qA M hs pl T (by rw[G];exact h0) (by rw[G];exact h1) ⟨.ref a,H,I,rfl,q⟩
@[simp] def gF (G:FE)(fl M:FO):FE:=λρ=>(G ρ).bind λx=>(fl ρ).bind λl=>(M ρ).bind λh=>match x.1 with
 |.lst ds=>some (.lst (c8 ds l h),true)
 |.tup ds=>some (.tup (c8 ds l h),false)
 |.str z=>if z.length<=sizeLine then some (.str (Txt.slice z l h),false)else none
 |_=>none
def nY {ds:LD}{lo hi:OI}(h0:HT.cu ds.length 0 lo=0)(h1:HT.cu ds.length ds.length hi=ds.length):c8 ds lo hi=ds:=by
 unfold c8;rw[h0,h1];simp
def bP {lo hi:Option Expr}{p2:Pos}{fa:FE}{fl fh:FO}(ha:JE X e fa)(hl:JO X lo fl)(hh:JO X hi fh):JE X (.Subscript e (.Slice lo hi none p2) pos) (gF fa fl fh):=by
 refine PE.to (rj (qS.or (qS.or uj xp) (qS.or uI uJ)) ha hl hh) λσ H Q q=>?_;obtain⟨B,ρ,d,b,sB,r,e,q⟩:=q;obtain⟨x,ex,e⟩:=oX e;obtain⟨l,el,e⟩:=oX e;obtain⟨h,eh,e⟩:=oX e;refine⟨B,ρ,x.1,x.2,sB,r,ex,λv H1 N1 M i1 _=>⟨N1,ρ,l,M.nh,r.mono M.bn,el,λH2 h2=>⟨N1,ρ,h,M.nh.trans h2,r.mono M.bn,eh,λH3 h3=>?_⟩⟩⟩;have O:aQ N1 H3:=M.nh.trans (h2.trans h3);have U:=q.into (M.trans (.grow M.nh (h2.trans h3)));obtain⟨xd,xb⟩:=x;dsimp only at e i1;cases i1 with
 |@tup a' vs ds hs G=>
  cases e
  by_cases hw:HT.cu ds.length 0 l=0/\HT.cu ds.length ds.length h=ds.length
  ·rw[nY hw.1 hw.2]at U;exact .inr (.inr ⟨a',vs,rfl,bf O hs,by rw[G.length];exact hw.1,by rw[G.length];exact hw.2,U.one O (.tup hs G)⟩)
  ·refine .inl (.inr ⟨a',vs,rfl,bf O hs,by rw[G.length];exact hw,λp hp=>?_⟩);have T:=Ext.laid (o:=.tup (kh vs l h)) O hp;exact U _ _ _ T (.tup (eS.of aM) ((lF G).mono T.bn)) (by simp)
 |@lst a' vs ds hs G=>
  cases e
  refine .inl (.inl ⟨a',vs,rfl,O.seq hs,λp hp=>?_⟩);have T:=Ext.laid (o:=.lst (kh vs l h)) O hp;exact U _ _ _ T (.lst (fz.of aM) ((lF G).mono T.bn)) λ_=>⟨p,_,_,rfl,rfl,hp,aM,(lF G).mono T.bn⟩
 |str z=>
  dsimp only at e;split at e
  ·rename_i hz;cases e
   exact .inr (.inl ⟨z,rfl,hz,U.one O (.str _)⟩)
  ·cases e
 |_=>cases e
def const_int {K:Frag}{y:Str}{i:Int}{t:Tok}(e:nsIn K mainGlobals y=some (some (.int i t))):∃u v,nsIn K mainGlobals y=some (some u)/\aT v u/\∀B,Is K B v (.int i):=⟨_,.int i,e,⟨t,rfl⟩,λ_=>.int i⟩
noncomputable def lI:Value->D->Bool
 |.none,.non=>true
 |.bool a,.bl b=>a == b
 |.int i _,.int j=>decide (i=j)
 |.str i _,.str j=>decide (i=j)
 |_,_=>false
def fE:LU->LD->Bool
 |[],[]=>true
 |u::us,d::ds=>lI u d && fE us ds
 |_,_=>false
theorem gl {K:Frag}{B:Hp}:∀ {u:Value}{d:D},lI u d=true->∃v,aT v u/\Is K B v d
 |.none,.non,_=>⟨.non,rfl,.non⟩
 |.bool a,.bl b,h=>by
  have:a=b:=eq_of_beq h;subst this;exact⟨.bl a,rfl,.bl a⟩
 |.int i t,.int j,h=>by
  have:i=j:=of_decide_eq_true h;subst this;exact⟨.int i,⟨t,rfl⟩,.int i⟩
 |.str i t,.str j,h=>by
  have:i=j:=of_decide_eq_true h;subst this;exact⟨.str i,⟨t,rfl⟩,.str i⟩
theorem fF {K:Frag}:∀ {us:LU}{ds:LD},fE us ds=true->∃vs,L2.aX vs us/\∀B,IsL K B vs ds
 |[],[],_=>⟨[],.nil,λ_=>.nil⟩
 |u::us,d::ds,h=>by
  rw[fE,vD]at h;obtain⟨vs,r,i⟩:=fF (K:=K) h.2;obtain⟨v,M,_⟩:=gl (K:=K) (B:=λ_=>none) h.1;refine⟨v::vs,.cons M r,λB=>?_⟩;obtain⟨T,G,U⟩:=gl (K:=K) (B:=B) h.1;have:T=v:=by have O:=M.abs;rw[G.abs]at O;exact vK O
  subst this;exact .cons U (i B)
def const_tup {K:Frag}{y:Str}{a:Addr}{od:Option Addr}{its:AV}{n:Nat}{kf:Array (Option Value)}{ds:LD}(e:nsIn K mainGlobals y=some (some (.ref a)))
  (l:K.lookup a=some ⟨.type "tuple",od,.seq its n,kf⟩) (h:(decide (its.size<=1000) && fE its.toList ds)=true):∃u v,nsIn K mainGlobals y=some (some u)/\aT v u/\∀B,Is K B v (.tup ds):=by
 rw[vD]at h;obtain⟨vs,r,i⟩:=fF (K:=K) h.2;exact⟨_,.ref a,e,rfl,λB=>.tup (.inr ⟨_,its,n,l,rfl,rfl,le_of_lt (Nat.lt_of_le_of_lt (of_decide_eq_true h.1) (by decide)),r⟩) (i B)⟩
end
section
variable {X:Cx}{a b o e:Expr}{pos:Pos}{x:Str}{p:Pos}{tg:Expr}
def xT {name:Str}{id:String}{dQ cz:Pos}{op:D->D->OB}{fo fe:FE}(slot:Slot "str" name id)(CD:typeOf (.builtin id)=pure (.type "method_descriptor"))
  (hm:ui X id (λx xs H Q=>∃y,xs=[y]/\rD X.K op x y H Q)) (U:∀dx dy r,op dx dy=some r->∃z,dx=.str z) (ho:JE X o fo) (he:JE X e fe)
  (G:attributeBase o name X.env (eval o X.env)=eval o X.env:=by rfl)
  (CS:((backTo cz (starEach [e] X.env)).all (λx=>!x.1) && (backToKw cz (keywordEach [] X.env)).all (λx=>x.1.isSome)
   && decide ([e].length+([]:List Keyword).length+(if([]:List Keyword).isEmpty then 0 else 1)<30))=true:=by rfl)
  (M:(dQ.endLine == cz.line)=true:=by rfl) (hs:starEach [e] X.env=[(false,eval e X.env)]:=by rfl):
  JE X (.Call (.Attribute o name dQ) [e] [] cz) (f2 op fo fe):=by
 refine PE.to (r6 PySem.F.plainAttrs_str slot CD hm ho (gi he jy hs) G CS M hs rfl) λσ H Q q=>?_;obtain⟨B,ρ,d,bb,sB,r,T,q⟩:=q;obtain⟨x1,ex,T⟩:=oX T;obtain⟨y1,ey,T⟩:=oX T;obtain⟨z,hz⟩:=U _ _ _ T;refine⟨B,ρ,x1.1,x1.2,sB,r,ex,λv H1 N1 O i1 _=>?_⟩;rw[hz]at i1;cases i1
 refine⟨show "str" = "str" from rfl,N1,ρ,y1.1,y1.2,O.nh,r.mono O.bn,ey,λv2 H2 N2 Bp i2 _=>⟨v2,rfl,N2,.str z,y1.1,d,bb,Bp.nh,.str z,i2,by rw[←hz];exact T,q.into (O.trans Bp)⟩⟩
@[simp] def xU:D->Option Str
 |.str z=>some z
 |_=>none
def gV:LD->Option LS
 |[]=>some []
 |d::ds=>(xU d).bind λz=>(gV ds).map (z :: ·)
@[simp] def yZ:gV []=some []:=rfl
@[simp] def nZ (d:D)(ds:LD):gV (d::ds)=(xU d).bind λz=>(gV ds).map (z :: ·):=rfl
@[simp] def qB (zs:LS):gV (zs.map D.str)=some zs:=by
 induction zs with
 |nil=>rfl
 |cons z zs G=>simp[G]
theorem gW {K:Frag}{B:Hp}:∀ {vs:LV}{ds:LD}{zs:LS}{its:LU},L2.aX vs its->IsL K B vs ds->gV ds=some zs->StrsAre its zs
 |_,_,_,_,.nil,.nil,e=>by cases e;exact .nil
 |_,_,_,_,.cons r M,.cons i O,e=>by
  rw[nZ]at e;obtain⟨z,G,e⟩:=oX e;obtain⟨zs,T,e⟩:=oY e;subst e;cases i<;>simp only[xU]at G<;>try (cases G;done)
  cases G
  obtain⟨t,rfl⟩:=r;exact .cons _ t (gW M O T)
@[simp] def gX:D->D->OB
 |.str G,.lst ds=>(gV ds).bind λzs=>if(zs.map (·.length)).sum+zs.length*G.length<=16777216 then some (.str (Txt.join G zs),false)else none
 |.str G,.tup ds=>(gV ds).bind λzs=>if(zs.map (·.length)).sum+zs.length*G.length<=16777216 then some (.str (Txt.join G zs),false)else none
 |_,_=>none
def xV:ui X "str.join" (λx xs H Q=>∃y,xs=[y]/\rD X.K gX x y H Q):=by
 intro ac s σ H x xs v us Q I rx rs h;obtain⟨y,rfl,B,dx,dy,d,bb,M,ix,iy,G,q⟩:=h;obtain⟨u1,rfl,U⟩:=ku rs;cases ix<;>(try (simp[gX]at G;done))
 obtain⟨t,rfl⟩:=rx;cases iy<;>(try (simp[gX]at G;done))
 ·rename_i h hl;simp only[gX]at G;obtain⟨zs,O,G⟩:=oX G;split at G
  ·rename_i hok;cases G
   cases U
   obtain⟨its,T,p1,z1⟩:=I.tuple (bf M h);exact join_tuple p1 (by simpa using gW T hl O) hok λt' k=>⟨.str _,H,I.tok k,⟨t',rfl⟩,q.one M (.str _)⟩
  ·cases G
 ·rename_i h hl;simp only[gX]at G;obtain⟨zs,O,G⟩:=oX G;split at G
  ·rename_i hok;cases G
   cases U
   obtain⟨its,T,p1,z1⟩:=I.list (M.seq h);exact join_list p1.isList (by simpa using gW T hl O) hok λt' k=>⟨.str _,H,I.tok k,⟨t',rfl⟩,q.one M (.str _)⟩
  ·cases G
def si (dx G:D)(r:D×Bool)(h:gX dx G=some r):∃z,dx=.str z:=by
 cases dx<;>first|exact⟨_,rfl⟩|(cases G<;>simp[gX]at h)
noncomputable def dN:LN->LD->Env->Option Env
 |[],[],ρ=>some ρ
 |i::is,d::ds,ρ=>dN is ds (ρ.set i (some (d,false)))
 |_,_,_=>none
@[simp] def kI (ρ:Env):dN [] [] ρ=some ρ:=by rw[dN]
@[simp] def gG (i:Nat)(is:LN)(d:D)(ds:LD)(ρ:Env):dN (i::is) (d::ds) ρ=dN is ds (ρ.set i (some (d,false))):=by rw[dN]
@[simp] def As (d:D)(ds:LD)(ρ:Env):dN [] (d::ds) ρ=none:=by simp only[dN]
@[simp] def Au (i:Nat)(is:LN)(ρ:Env):dN (i::is) [] ρ=none:=by simp only[dN]
@[simp] def za (is:LN):FG:=λd ρ=>match d with|.tup ds=>dN is ds ρ|_=>none
def i0:LN->vM
 |[]=>zy
 |i::is=>vN (gu i) (i0 is)
def sj:aQ (cA N (own σ ρ)) (cA N (own (σ.set i (some v)) (ρ.set i (some (d,false))))):=dB λa u e q=>⟨e,λz=>q (by
 rcases jq z with⟨_,d',p⟩|⟨j,_,d',G,M⟩
 ·cases p
 ·exact⟨j,d',G,M⟩)⟩
theorem i6 {K:Frag}:∀ {is:LN}{vs:LV}{ds:LD}{B0 H0 N H:Hp}{σ:St}{ρ ρ':Env}{Q:St->Hp->Prop},cN K B0 H0 N H σ ρ->IsL K (cA N (own σ ρ)) vs ds->dN is ds ρ=some ρ'->(∀G,cN K B0 H0 N H G ρ'->Q G H)->i0 is vs σ H Q
 |[],_,_,_,_,_,_,_,_,_,_,s,.nil,e,k=>by
  rw[kI]at e;cases e;exact⟨rfl,k _ s⟩
 |[],_,_,_,_,_,_,_,_,_,_,_,.cons _ _,e,_=>by simp at e
 |_::_,_,_,_,_,_,_,_,_,_,_,_,.nil,e,_=>by simp at e
 |i::is,_,_,_,_,_,_,_,_,_,_,s,.cons h hs,e,k=>by
  rw[gG]at e;exact⟨_,_,rfl,i6 (s.bind h) (hs.mono sj) e k⟩
theorem i7:∀ {is:LN}{ds:LD}{ρ ρ':Env},dN is ds ρ=some ρ'->ds.length=is.length
 |[],[],_,_,_=>rfl
 |_::_,_::_,_,_,e=>by rw[gG]at e;simp[i7 e]
 |[],_::_,_,_,e=>by simp at e
 |_::_,[],_,_,e=>by simp at e
theorem kJ {K:Frag}{n:Nat}{B H:Hp}{M:Env}{Q:St->Hp->Prop}(cl:∀i,i<n->M[i]? = some none):∀ {is:LN}{vs:LV}{ds:LD}{σ:St}{ρ O:Env},(∀i∈is,i<n)->di K B σ ρ->IsL K B vs ds->dN is ds ρ=some O->ρ.length=σ.length->ρ.length=M.length ->
  (∀G,di K B G O->(∀U,di K U σ M->di K U G M)->M.length=G.length->Q G H)->i0 is vs σ H Q
 |[],_,_,_,_,_,_,rp,.nil,e,l1,l2,k=>by
  rw[kI]at e;cases e;exact⟨rfl,k _ rp (λ_ z=>z) (by omega)⟩
 |[],_,_,_,_,_,_,_,.cons _ _,e,_,_,_=>by simp at e
 |_::_,_,_,_,_,_,_,_,.nil,e,_,_,_=>by simp at e
 |i::is,_,_,σ,ρ,_,hn,rp,.cons (v:=v) h hs,e,l1,l2,k=>by
  rw[gG]at e;have hi:=hn i mX;have T:i<σ.length:=by
   have:=(vV (cl i hi)).1;omega
  refine⟨_,_,rfl,kJ cl (λj hj=>hn j (mZ _ hj)) ⟨rp.tb,λj d b q=>?_⟩ hs e (by simpa using l1) (by simpa using l2) λG r1 r2 l=>k G r1 (λU z=>r2 U ⟨z.tb,λj d b q=>?_⟩) l⟩
  ·rcases bB q with⟨rfl,pp⟩|⟨ne,pp⟩
   ·cases pp
    exact⟨v,by simp[T],h⟩
   ·obtain⟨w,h1,h2⟩:=rp.at' j d b pp;exact⟨w,by rw[vC ne];exact h1,h2⟩
  ·obtain⟨w,h1,h2⟩:=z.at' j d b q;have ne:i≠j:=λz=>by subst z;rw[cl i hi]at q;cases q
   exact⟨w,by rw[vC ne];exact h1,h2⟩
def wr {K:Frag}{n:Nat}{is:LN}(hn:∀i∈is,i<n):wj K n (za is) (z0 K is.length (i0 is)):=by
 intro B H σ ρ G v d Q cl rep s h e hl k;cases h with
 |@tup a vs ds T M=>
  have O:dN is ds ρ=some G:=e;exact⟨a,vs,rfl,bf s T,by rw[M.length];exact i7 O,kJ cl hn rep M O hl rfl k⟩
 |_=>cases e
end
section
variable {prog:Program}{w:World}{A:Around}{E:QV}{s:Shared}
def oe (st:s.heap.IsTupleIter it l i)(M:s.heap.IsTuple l items)(O:items[i]? = some v)
  (k:∀h',h'.IsTupleIter it l (i+1)->Heap.SameBut it s.heap h'->Q v { s with heap:=h' }):wpAny (model prog w) A (Builtin.SmallTypes.nextOf (.ref it)) Q E s:=by
 obtain⟨o1,G,T,d1⟩:=id st;obtain⟨o2,U,_,n2,d2⟩:=M;unfold Builtin.SmallTypes.nextOf;refine wX (wpAny_callSpecial?_slot (name:=Str.ofString "__next__") st.typeIs PySem.F.slot_tuple_iterator_next (wpAny_call_entry PySem.F.slot_tuple_iterator_next st.typeIs PySem.F.entry_tuple_iterator_next ?_ (PySem.F.args_tuple_iterator_next_1 _)));show wpAny _ _ (field (.ref it) 0>>=_) _ _ _;refine wX (wpAny_field G d1 (x:=.ref l) rfl ?_);show wpAny _ _ (if(Value.ref l == Value.none)=true then _ else _) _ _ _;rw[if_neg (λz=>uY z:¬((Value.ref l == Value.none)=true))];show wpAny _ _ (field (.ref it) 1>>=_) _ _ _;refine wX (wpAny_field G d1 (x:=.int i 0) rfl ?_);show wpAny _ _ (seqItems? (.ref l)>>=_) _ _ _;refine wX (wpAny_seqItems U d2 ?_);simp only[O,Int.toNat_natCast];refine wX (wpAny_setField G d1 (by simp) (wY ⟨v,rfl,wY (k _ ?_ (Heap.SameBut.update ..))⟩));exact⟨_,Heap.get?_update_self _ G (Obj.isFreed_of_fields (Obj.data_mapFields d1 _)),(Obj.cls_mapFields ..).trans T,by rw[Obj.data_mapFields d1];simp[rawInt]⟩
def qC (M:A.handled=none)(st:s.heap.IsTupleIter it l i)(O:s.heap.IsTuple l items)(T:items[i]? = none)
  (k:∀h' x,Heap.ExtBut it s.heap h'->(∃o,h'.get? x=some o/\o.cls=.type "StopIteration")->E (.ref x) { s with heap:=h' }):wpAny (model prog w) A (Builtin.SmallTypes.nextOf (.ref it)) Q E s:=by
 obtain⟨o1,G,c1,d1⟩:=id st;obtain⟨o2,U,_,n2,d2⟩:=O;unfold Builtin.SmallTypes.nextOf;refine wX (wpAny_callSpecial?_slot (name:=Str.ofString "__next__") st.typeIs PySem.F.slot_tuple_iterator_next (wpAny_call_entry PySem.F.slot_tuple_iterator_next st.typeIs PySem.F.entry_tuple_iterator_next ?_ (PySem.F.args_tuple_iterator_next_1 _)));show wpAny _ _ (field (.ref it) 0>>=_) _ _ _;refine wX (wpAny_field G d1 (x:=.ref l) rfl ?_);show wpAny _ _ (if(Value.ref l == Value.none)=true then _ else _) _ _ _;rw[if_neg (λz=>uY z:¬((Value.ref l == Value.none)=true))];show wpAny _ _ (field (.ref it) 1>>=_) _ _ _;refine wX (wpAny_field G d1 (x:=.int i 0) rfl ?_);show wpAny _ _ (seqItems? (.ref l)>>=_) _ _ _;refine wX (wpAny_seqItems U d2 ?_);simp only[T,Int.toNat_natCast];refine wX (wpAny_rule (wX (wpAny_setField G d1 (by simp) ?_)));show wpAny _ _ (newExc (.type "StopIteration") []>>=_) _ _ _;refine wX ?_;simp only[newTuple,newExc];refine wX (wpAny_newObj_type ?_ (by size_fits));refine wX (m:=firstArgMember _ _) (wpAny_of_eq (a:=Value.none) (by first|(simp only[firstArgMember];rfl)|rfl) ?_);refine wpAny_newObj_type ?_ (by size_fits);simp only[raiseNew];refine wX (wpAny_handled ?_);first|rw[M]|rw[show A.in1.handled=none from M]
 exact wX (wY (wpAny_throw (k _ _ (((Heap.SameBut.update ..).extBut.push _).push _) ⟨_,vY _ rfl,rfl⟩)))
end
def ka:Bool->Heap->Addr->Addr->Nat->Prop
 |true,h,it,a,i=>h.IsListIter it a i
 |false,h,it,a,i=>h.IsTupleIter it a i
def jF:Bool->Heap->Addr->AV->Prop
 |true,h,a,items=>h.IsList a items
 |false,h,a,items=>h.IsTuple a items
def kc (k:Bool)(K:Frag)(H:Hp)(a:Addr)(xs:LV):Prop:=match k with|true=>fz K H a xs|false=>eS K H a xs
def ka.ob (st:ka k h it a i):∃o,h.get? it=some o/\∀v,o.data≠.cell v:=by
 cases k<;>(obtain⟨o,g,_,d⟩:=st;exact⟨o,g,λv z=>by rw[d]at z;cases z⟩)
def ka.upon (st:ka k h it a i)(g:∀o,h.get? it=some o->h'.get? it=some o):ka k h' it a i:=by
 cases k<;>(obtain⟨o,e,r⟩:=st;exact⟨o,g o e,r⟩)
def jF.upon (st:jF k h a items)(g:∀o,h.get? a=some o->h'.get? a=some o):jF k h' a items:=by
 cases k<;>(obtain⟨o,e,r⟩:=st;exact⟨o,g o e,r⟩)
def jF.lt (st:jF k h a items):a<h.objs.size:=by
 cases k<;>(obtain⟨o,e,r⟩:=st;exact vX e)
def kc.same {k:Bool}{K:Frag}{H H':Hp}{a:Addr}{xs:LV}(h:kc k K H a xs)(e:aQ H H'):kc k K H' a xs:=by
 cases k
 ·exact bf e h
 ·exact e.seq h
def kc.vals (I:Inv X ac σ H s)(h:kc k X.K H a xs):∃its:LU,aX xs its/\jF k s.heap a its.toArray/\xs.length<=sizeLine:=by
 cases k
 ·exact I.tuple h
 ·obtain⟨its,r,p,z⟩:=I.list h;exact⟨its,r,p.isList,z⟩
def kc.inj (I:Inv X ac σ H s)(h:kc k X.K H a xs)(h':kc k X.K H a ys):xs=ys:=by
 cases k
 ·exact I.tuple_inj h h'
 ·exact I.list_inj h h'
section
variable {prog:Program}{w:World}{A:Around}{E:QV}{s:Shared}
def iA (st:ka k s.heap it l i)(G:jF k s.heap l items)(M:items[i]? = some v)
  (q:∀h',ka k h' it l (i+1)->Heap.SameBut it s.heap h'->Q v { s with heap:=h' }):wpAny (model prog w) A (Builtin.SmallTypes.nextOf (.ref it)) Q E s:=by
 cases k
 ·exact oe st G M q
 ·exact wpAny_nextOf_list_item st G M q
def mG (G:A.handled=none)(st:ka k s.heap it l i)(M:jF k s.heap l items)(O:items[i]? = none)
  (q:∀h' x,Heap.ExtBut it s.heap h'->(∃o,h'.get? x=some o/\o.cls=.type "StopIteration")->E (.ref x) { s with heap:=h' }):wpAny (model prog w) A (Builtin.SmallTypes.nextOf (.ref it)) Q E s:=by
 cases k
 ·exact qC G st M O q
 ·exact wpAny_nextOf_list_end G st M O q
end
noncomputable def B2 (k:Bool)(l:Addr):Obj:={ cls:=.type (if k=true then "list_iterator" else "tuple_iterator"),data:=.fields #[.ref l,.int 0 0] }
def pE (G:jF k s.heap l items)
  (q:Q (.ref s.heap.objs.size) { s with heap:=s.heap.push (B2 k l) }):wpAny (model prog w) A (pyIter (.ref l)) Q E s:=by
 cases k
 ·exact wpAny_pyIter_tuple G q
 ·exact wpAny_pyIter_list G q
def jF.push (st:jF k h a items)(o:Obj):jF k (h.push o) a items:=st.upon λ_ e=>vZ _ e
section
variable (k1 k2:Bool) (h:Heap) (l1 l2:Addr)
abbrev zA:Heap:=h.push (B2 k1 l1)
abbrev zB:Heap:=(zA k1 h l1).push (B2 k2 l2)
abbrev zC:Heap:=(zB k1 k2 h l1 l2).push { cls:=.type "tuple",data:=.seq #[.ref h.objs.size,.ref (zA k1 h l1).objs.size] }
abbrev zD:Heap:=(zC k1 k2 h l1 l2).push { cls:=.type "tuple",data:=.seq #[.none,.none] }
abbrev zE:Heap:=(zD k1 k2 h l1 l2).push { cls:=.type "zip",data:=.fields #[.none,.bool false,.bool false,.ref (zB k1 k2 h l1 l2).objs.size,.ref (zC k1 k2 h l1 l2).objs.size] }
end
def og (k1 k2:Bool)(G M:Addr)(xs ys:AV):Meets (Builtin.«zip.__new__» ⟨[.type "zip",.ref G,.ref M],[]⟩) (λ_ R s=>jF k1 s.heap G xs/\jF k2 s.heap M ys /\
   R (.ok (.ret (.ref (zD k1 k2 s.heap G M).objs.size))) { s with heap:=zE k1 k2 s.heap G M }) :=
 .of_wp λprog w A R s hs=>by
  obtain⟨hp,g,d,O,os⟩:=s;obtain⟨U,q2,hs⟩:=hs;have T:=sub_zip;have p1:jF k1 (Shared.heap ⟨hp,g,d,O,os⟩) G xs:=U;have p2:jF k2 (Shared.heap ⟨hp.push (B2 k1 G),g,d,O,os⟩) M ys:=jF.push q2 _;wp_walk using pE p1,pE p2;exact⟨_,rfl,hs⟩
section
variable {prog:Program}{w:World}{A:Around}{E:QV}{s:Shared}
def uK (q1:jF k1 s.heap l1 xs)(q2:jF k2 s.heap l2 ys)
  (q:∀h',IsZip h' (s.heap.objs.size+4) (s.heap.objs.size+2) (s.heap.objs.size+3) .none->IsPair h' (s.heap.objs.size+2) (.ref s.heap.objs.size) (.ref (s.heap.objs.size+1))->IsPair h' (s.heap.objs.size+3) .none .none ->
   ka k1 h' s.heap.objs.size l1 0->ka k2 h' (s.heap.objs.size+1) l2 0->(∀c o,s.heap.get? c=some o->h'.get? c=some o)->Q (.ref (s.heap.objs.size+4)) { s with heap:=h' }):
  wpAny (model prog w) A (call (.type "zip") [.ref l1,.ref l2]) Q E s:=by
 refine callType_new PySem.F.called_zip (by decide) (PySem.F.typeCall_zip_2 _ _) (PySem.F.newCall_zip_2 _ _) (λobj=>PySem.F.args_object_init_3 obj _ _) PySem.F.entry_zip_new (og k1 k2 l1 l2 xs ys) ⟨q1,q2,?_⟩;have n1:(zA k1 s.heap l1).objs.size=s.heap.objs.size+1:=Heap.size_push ..;have n2:(zB k1 k2 s.heap l1 l2).objs.size=s.heap.objs.size+2:=by rw[Heap.size_push,n1]
 have n3:(zC k1 k2 s.heap l1 l2).objs.size=s.heap.objs.size+3:=by rw[Heap.size_push,n2]
 have n4:(zD k1 k2 s.heap l1 l2).objs.size=s.heap.objs.size+4:=by rw[Heap.size_push,n3]
 have M:∀ {c o},(zD k1 k2 s.heap l1 l2).get? c=some o->(zE k1 k2 s.heap l1 l2).get? c=some o:=λe=>vZ _ e;have O:∀ {c o},(zC k1 k2 s.heap l1 l2).get? c=some o->(zE k1 k2 s.heap l1 l2).get? c=some o:=λe=>M (vZ _ e);have T:∀ {c o},(zB k1 k2 s.heap l1 l2).get? c=some o->(zE k1 k2 s.heap l1 l2).get? c=some o:=λe=>O (vZ _ e);have U:∀ {c o},(zA k1 s.heap l1).get? c=some o->(zE k1 k2 s.heap l1 l2).get? c=some o:=λe=>T (vZ _ e);have u1:∀ {c o},s.heap.get? c=some o->(zE k1 k2 s.heap l1 l2).get? c=some o:=λe=>U (vZ _ e);have G:(zE k1 k2 s.heap l1 l2).get? (zD k1 k2 s.heap l1 l2).objs.size=some _:=vY _ rfl;have g4:(zE k1 k2 s.heap l1 l2).get? (zC k1 k2 s.heap l1 l2).objs.size=some _:=M (vY _ rfl);have g3:(zE k1 k2 s.heap l1 l2).get? (zB k1 k2 s.heap l1 l2).objs.size=some _:=O (vY _ rfl);have g2:(zE k1 k2 s.heap l1 l2).get? (zA k1 s.heap l1).objs.size=some _:=T (vY _ (by cases k2<;>rfl))
 have g1:(zE k1 k2 s.heap l1 l2).get? s.heap.objs.size=some _:=U (vY _ (by cases k1<;>rfl))
 rw[n2,n3,n4]at G;rw[n1,n2]at g3;rw[n3]at g4;rw[n1]at g2;show _/\_;rw[n4];refine⟨⟨_,G,rfl⟩,q _ G g3 g4 ?_ ?_ λc o e=>u1 e⟩
 ·cases k1<;>exact⟨_,g1,rfl,rfl⟩
 ·cases k2<;>exact⟨_,g2,rfl,rfl⟩
structure ZApart (z TI TO i1 i2:Addr):Prop where
 tz:TI≠z
 oz:TO≠z
 az:i1≠z
 bz:i2≠z
 oa:TO≠i1
 ob:TO≠i2
 to:TI≠TO
 ta:TI≠i1
 tb:TI≠i2
 ab:i1≠i2
def sk {k1 k2:Bool}{z TI TO i1 i2 l1 l2:Addr}{j:Nat}{xs ys:AV}{x y a b:Value}{Q:QV}(D:ZApart z TI TO i1 i2)(m1:l1≠z/\l1≠TO/\l1≠i1)(m2:l2≠z/\l2≠TO/\l2≠i1/\l2≠i2)
  (hz:IsZip s.heap z TI TO .none) (hI:IsPair s.heap TI (.ref i1) (.ref i2)) (hO:IsPair s.heap TO a b) (t1:ka k1 s.heap i1 l1 j) (t2:ka k2 s.heap i2 l2 j) (q1:jF k1 s.heap l1 xs) (q2:jF k2 s.heap l2 ys) (hx:xs[j]? = some x) (hy:ys[j]? = some y)
  (q:∀h',IsZip h' z TI TO (rawInt s.heap.objs.size)->IsPair h' TO x y->ka k1 h' i1 l1 (j+1)->ka k2 h' i2 l2 (j+1)->IsPair h' s.heap.objs.size x y->h'.objs.size=s.heap.objs.size+1 ->
   (∀c o,c≠z->c≠TO->c≠i1->c≠i2->s.heap.get? c=some o->h'.get? c=some o)->Q (.ref s.heap.objs.size) { s with heap:=h' }):
  wpAny (model prog w) A (Builtin.«zip.__next__» ⟨[.ref z],[]⟩) (λyL s'=>∃v,yL=.done (.ret v)/\Q v s') E s:=by
 show wpAny _ _ (field (.ref z) 2>>=_) _ _ s;refine wX (wpAny_field hz rfl (x:=.bool false) rfl ?_);show wpAny _ _ (field (.ref z) 3>>=_) _ _ s;refine wX (wpAny_field hz rfl (x:=.ref TI) rfl (wX (wpAny_seqItems hI rfl ?_)));show wpAny _ _ (Builtin.SmallTypes.ownedTupleIsFree (.ref z)>>=_) _ _ s;refine wX ?_;unfold Builtin.SmallTypes.ownedTupleIsFree;refine wX (wpAny_field hz rfl (x:=.none) rfl (wY ?_));simp only[if_true];refine wX (wpAny_rule (wX (wpAny_field hz rfl (x:=.ref TO) rfl (wX (wpAny_setField_rec hz (by simp) λg1 hz1 s1=>?_)))));replace hz1:IsZip g1 z TI TO .ellipsis:=hz1;refine wX ?_;simp only[forIn_cons,List.forIn_nil,List.zipIdx_cons,List.zipIdx_nil];refine wX (wX (wpAny_onRaise ?_));show wpAny _ _ (Builtin.SmallTypes.nextOf (.ref i1)>>=_) _ _ { s with heap:=g1 };refine wX (iA (s:={ s with heap:=g1 }) (t1.upon λo e=>s1.extBut _ _ D.az e) (q1.upon λo e=>s1.extBut _ _ m1.1 e) hx λg2 t12 s2=>wY ?_);have Bq:IsPair g2 TO a b:=s2.extBut _ _ D.oa (s1.extBut _ _ D.oz hO);refine wX (wpAny_seqItems Bq rfl (wX (wpAny_updateSeq_pair Bq λg3 hO3 s3=>?_)));replace hO3:IsPair g3 TO x b:=hO3;refine wX (wpAny_letGo (wY (wX (wX (wpAny_onRaise ?_)))));show wpAny _ _ (Builtin.SmallTypes.nextOf (.ref i2)>>=_) _ _ { s with heap:=g3 };have CT:∀ {c o},c≠z->c≠TO->c≠i1->s.heap.get? c=some o->g3.get? c=some o:=λM c2 c3 e=>s3.extBut _ _ c2 (s2.extBut _ _ c3 (s1.extBut _ _ M e));refine wX (iA (s:={ s with heap:=g3 }) (t2.upon λo e=>CT D.bz D.ob.symm D.ab.symm e) (q2.upon λo e=>CT m2.1 m2.2.1 m2.2.2.1 e) hy λg4 t24 s4=>wY ?_);have DM:IsPair g4 TO x b:=s4.extBut _ _ D.ob hO3;refine wX (wpAny_seqItems DM rfl (wX (wpAny_updateSeq_pair DM λG O s5=>?_)));replace O:IsPair G TO x y:=O;refine wX (wpAny_letGo (wY (wY (wX (wpAny_seqItems O rfl (wX (wpAny_newTuple ?_)))))));have sz:G.objs.size=s.heap.objs.size:=by rw[s5.1,s4.1,s3.1,s2.1,s1.1]
 have Fa:∀c o,c≠z->c≠TO->c≠i1->c≠i2->s.heap.get? c=some o->G.get? c=some o:=λc o M c2 c3 c4 e=>s5.extBut _ _ c2 (s4.extBut _ _ c4 (CT M c2 c3 e));have DN:IsZip G z TI TO .ellipsis:=s5.extBut _ _ D.oz.symm (s4.extBut _ _ D.bz.symm (s3.extBut _ _ D.oz.symm (s2.extBut _ _ D.az.symm hz1)));have Fb:ka k1 G i1 l1 (j+1):=t12.upon λo e=>s5.extBut _ _ D.oa.symm (s4.extBut _ _ D.ab (s3.extBut _ _ D.oa.symm e));have Fc:ka k2 G i2 l2 (j+1):=t24.upon λo e=>s5.extBut _ _ D.ob.symm e;have DO:z<G.objs.size:=vX DN;show wpAny _ _ (Builtin.SmallTypes.ownedTupleHandOut (.ref z) (.ref G.objs.size)>>=_) _ _ { s with heap:=G.push { cls:=.type "tuple",data:=.seq #[x,y] } };refine wX ?_;unfold Builtin.SmallTypes.ownedTupleHandOut;have Fd:IsZip (G.push { cls:=.type "tuple",data:=.seq #[x,y] }) z TI TO .ellipsis:=vZ _ DN;refine wX (wpAny_setField_rec Fd (by simp) λg7 hz7 s7=>?_);replace hz7:IsZip g7 z TI TO (rawInt G.objs.size):=hz7;refine wpAny_setField_rec hz7 (by simp) λg8 T s8=>?_;replace T:IsZip g8 z TI TO (rawInt G.objs.size):=T;have U:∀c o,c≠z->G.get? c=some o->g8.get? c=some o:=λc o M e=>s8.extBut _ _ M (s7.extBut _ _ M (vZ _ e));have DP:IsPair g8 G.objs.size x y:=s8.extBut _ _ (ne_of_gt DO) (s7.extBut _ _ (ne_of_gt DO) (vY _ rfl));have DQ:g8.objs.size=G.objs.size+1:=by rw[s8.1,s7.1,Heap.size_push]
 rw[sz]at T DP DQ;refine wY ⟨_,rfl,?_⟩;show Q (.ref G.objs.size) _;rw[sz];exact q g8 T (U _ _ D.oz O) (Fb.upon λo e=>U _ o D.az e) (Fc.upon λo e=>U _ o D.bz e) DP DQ λc o M c2 c3 c4 e=>U c o M (Fa c o M c2 c3 c4 e)
end
section
variable {prog:Program}{w:World}{A:Around}{E:QV}{s:Shared}
def uL {k1 k2:Bool}{z TI TO i1 i2 l1 U:Addr}{j:Nat}{xs ys:AV}{a b:Value}{Q:PySem.Fin->Shared->Prop}(hA:A.handled=none)(D:ZApart z TI TO i1 i2)(m1:l1≠z/\l1≠TO/\l1≠i1)(m2:U≠z/\U≠TO/\U≠i1/\U≠i2)
  (hz:IsZip s.heap z TI TO .none) (hI:IsPair s.heap TI (.ref i1) (.ref i2)) (hO:IsPair s.heap TO a b) (t1:ka k1 s.heap i1 l1 j) (t2:ka k2 s.heap i2 U j) (q1:jF k1 s.heap l1 xs) (q2:jF k2 s.heap U ys) (he:xs[j]? = none∨ys[j]? = none)
  (q:∀h' x,(∀c o,c≠z->c≠TO->c≠i1->c≠i2->s.heap.get? c=some o->h'.get? c=some o)->(∃o,h'.get? x=some o/\o.cls=.type "StopIteration")->E (.ref x) { s with heap:=h' }):
  wpAny (model prog w) A (Builtin.«zip.__next__» ⟨[.ref z],[]⟩) Q E s:=by
 show wpAny _ _ (field (.ref z) 2>>=_) _ _ s;refine wX (wpAny_field hz rfl (x:=.bool false) rfl ?_);show wpAny _ _ (field (.ref z) 3>>=_) _ _ s;refine wX (wpAny_field hz rfl (x:=.ref TI) rfl (wX (wpAny_seqItems hI rfl ?_)));show wpAny _ _ (Builtin.SmallTypes.ownedTupleIsFree (.ref z)>>=_) _ _ s;refine wX ?_;unfold Builtin.SmallTypes.ownedTupleIsFree;refine wX (wpAny_field hz rfl (x:=.none) rfl (wY ?_));simp only[if_true];refine wX (wpAny_rule (wX (wpAny_field hz rfl (x:=.ref TO) rfl (wX (wpAny_setField_rec hz (by simp) λg1 G s1=>?_)))));replace G:IsZip g1 z TI TO .ellipsis:=G;refine wX ?_;simp only[forIn_cons,List.forIn_nil,List.zipIdx_cons,List.zipIdx_nil];refine wX (wX (wpAny_onRaise ?_));show wpAny _ _ (Builtin.SmallTypes.nextOf (.ref i1)>>=_) _ _ { s with heap:=g1 };cases hx:xs[j]? with
 |none=>
  refine wX (mG (s:={ s with heap:=g1 }) hA (t1.upon λo e=>s1.extBut _ _ D.az e) (q1.upon λo e=>s1.extBut _ _ m1.1 e) hx λg2 x s2 hX=>?_);obtain⟨oU,M,cX⟩:=hX;have DR:IsZip g2 z TI TO .ellipsis:=s2 _ _ D.az.symm G;have nz:x≠z:=λz'=>by subst z';rw[DR]at M;cases M;simp at cX
  exact wpAny_setField_rec DR (by simp) λg3 _ s3=>q g3 x (λc o O _ c3 _ e=>s3.extBut _ _ O (s2 _ _ c3 (s1.extBut _ _ O e))) ⟨oU,s3.extBut _ _ nz M,cX⟩
 |some v=>
  have hy:ys[j]? = none:=by
   rcases he with h|h
   ·rw[hx]at h;cases h
   ·exact h
  refine wX (iA (s:={ s with heap:=g1 }) (t1.upon λo e=>s1.extBut _ _ D.az e) (q1.upon λo e=>s1.extBut _ _ m1.1 e) hx λg2 t12 s2=>wY ?_);have Bq:IsPair g2 TO a b:=s2.extBut _ _ D.oa (s1.extBut _ _ D.oz hO);refine wX (wpAny_seqItems Bq rfl (wX (wpAny_updateSeq_pair Bq λg3 hO3 s3=>?_)));refine wX (wpAny_letGo (wY (wX (wX (wpAny_onRaise ?_)))));show wpAny _ _ (Builtin.SmallTypes.nextOf (.ref i2)>>=_) _ _ { s with heap:=g3 };have T:∀ {c o},c≠z->c≠TO->c≠i1->s.heap.get? c=some o->g3.get? c=some o:=λO c2 c3 e=>s3.extBut _ _ c2 (s2.extBut _ _ c3 (s1.extBut _ _ O e));refine wX (mG (s:={ s with heap:=g3 }) hA (t2.upon λo e=>T D.bz D.ob.symm D.ab.symm e) (q2.upon λo e=>T m2.1 m2.2.1 m2.2.2.1 e) hy λg4 x s4 hX=>?_);obtain⟨oU,M,cX⟩:=hX;have DS:IsZip g4 z TI TO .ellipsis:=s4 _ _ D.bz.symm (s3.extBut _ _ D.oz.symm (s2.extBut _ _ D.az.symm G));have nz:x≠z:=λz'=>by subst z';rw[DS]at M;cases M;simp at cX
  exact wpAny_setField_rec DS (by simp) λg5 _ s5=>q g5 x (λc o O c2 c3 c4 e=>s5.extBut _ _ O (s4 _ _ c4 (T O c2 c3 e))) ⟨oU,s5.extBut _ _ nz M,cX⟩
end
def pF {X:Cx}{ac:AO}{σ:St}{H:Hp}{s:Shared}{h':Heap}{t':Nat}{ch:List Addr}(I:Inv X ac σ H s)(f:∀b∈ch,jg X ac H b)(k:∀b o,b∉ch->s.heap.get? b=some o->h'.get? b=some o):Inv X ac σ H { s with heap:=h',toks:=t' }:=by
 have G:∀b u,H b=some u->b∉ch:=λb u e z=>by rw[(f b z).1]at e;cases e
 refine I.step (g':=s.gens) (d':=s.drawn) (ch:=ch) (λb hb=>?_) (λb o _ _ hc e _=>k b o hc e) (λb o _ _ hc e _=>⟨o.slots,k b o hc e⟩) (λ_ _ _ _ n=>n)
  (λb o hc e=>⟨o,k b o hc e⟩) (λ_ _ e=>e) (λ_ _ _ e=>e) (λ_ _ e=>e) (λm hm=>?_) (λb u e=>?_) I.bare
 ·obtain⟨_,f1,_,f3,f4,f5⟩:=f b hb;exact⟨f3,f1,f4,f5⟩
 ·obtain⟨o,es,M,O,r⟩:=hm;exact⟨o,es,M,k _ o (λz=>(f _ z).2.1 rfl) O,r⟩
 ·refine(I.hok b u e).stay (λc v hc q=>k c v ?_ q) (λ_ q=>q) (λ_ _ q=>q) λ_ _ _ q=>q;rcases hc with z|z
  ·rw[z];exact G b u e
  ·exact G c _ z
def Av {X:Cx}{ac:AO}{σ:St}{H:Hp}{s:Shared}{h':Heap}{t':Nat}{ch:List Addr}{a:Addr}{ob:HO}(I:Inv X ac σ H s)(f:∀b∈ch,jg X ac H b)(k:∀b o,b∉ch->s.heap.get? b=some o->h'.get? b=some o)(ha:s.heap.objs.size<=a)
  (new:bN X.prog X.w (upd H a ob) h' a ob):Inv X ac σ (upd H a ob) { s with heap:=h',toks:=t' }:=by
 have hn:H a=none:=I.hok.fresh ha;have G:∀b u,H b=some u->b∉ch:=λb u e z=>by rw[(f b z).1]at e;cases e
 have M:∀b o,s.heap.get? b=some o->b≠a:=λb o e=>vS (vQ (vX e) ha);refine I.step (g':=s.gens) (d':=s.drawn) (ch:=ch) (λb hb=>?_) (λb o _ _ hc e _=>k b o hc e) (λb o _ _ hc e _=>⟨o.slots,k b o hc e⟩) (λb o _ e n=>by rw[aK (M b o e)];exact n)
  (λb o hc e=>⟨o,k b o hc e⟩) (λb xs e=>by rw[aK (bD e hn)];exact e) (λb o u e=>by rw[aK (bD e hn)];exact e) (λb ps e=>by rw[aK (bD e hn)];exact e) (λm hm=>?_) (λb u e=>?_) I.bare
 ·obtain⟨_,f1,_,f3,f4,f5⟩:=f b hb;exact⟨f3,f1,f4,f5⟩
 ·obtain⟨o,es,O,T,r⟩:=hm;exact⟨o,es,O,k _ o (λz=>(f _ z).2.1 rfl) T,r⟩
 ·by_cases hb:b=a
  ·subst hb;rw[aM]at e;cases e;exact new
  ·rw[aK hb]at e;refine(I.hok b u e).stay (λc v hc q=>k c v ?_ q) (λc q=>?_) (λc xs q=>?_) λc o xs q=>?_
   ·rcases hc with z|z
    ·rw[z];exact G b u e
    ·exact G c _ z
   ·rw[aK (bD q hn)];exact q
   ·rw[aK (bD q hn)];exact q
   ·rw[aK (bD q hn)];exact q
noncomputable def Cj (K:Frag)(k1 k2:Bool)(G M:Addr):It :=
  ⟨λi H=>∃xs ys x y,kc k1 K H G xs/\kc k2 K H M ys/\xs[i]? = some x/\ys[i]? = some y,
   λi H v H'=>∃T x y,v=.ref T/\H T=none/\H'=upd H T (.tup [x,y])/\(∀xs,kc k1 K H G xs->xs[i]? = some x)/\(∀ys,kc k2 K H M ys->ys[i]? = some y),
   λi H=>∃xs ys,kc k1 K H G xs/\kc k2 K H M ys/\(xs.length<=i∨ys.length<=i)⟩
def sn {P:Program}{w:World}{K:Frag}{es:QD}{kt:Nat}{pt:Pos}{k1 k2:Bool}{a1 a2 z TI TO i1 i2:Addr}(D:ZApart z TI TO i1 i2)(m1:a1≠z/\a1≠TO/\a1≠i1)(m2:a2≠z/\a2≠TO/\a2≠i1/\a2≠i2):
  Turn P w K (.Tuple es kt pt) (Cj K k1 k2 a1 a2) [z,TI,TO,i1,i2] z (λi h=>IsZip h z TI TO .none/\IsPair h TI (.ref i1) (.ref i2)/\(∃a b,IsPair h TO a b)/\ka k1 h i1 a1 i/\ka k2 h i2 a2 i) where
 mem:=by simp
 obj:=λi h st b hb=>by
  obtain⟨hz,M,⟨a,c,O⟩,U,t2⟩:=st;simp at hb;rcases hb with rfl|rfl|rfl|rfl|rfl
  ·exact⟨_,hz,λv z=>by cases z⟩
  ·exact⟨_,M,λv z=>by cases z⟩
  ·exact⟨_,O,λv z=>by cases z⟩
  ·exact U.ob
  ·exact t2.ob
 keep:=λi h h' st k=>by
  obtain⟨hz,M,⟨a,c,O⟩,U,t2⟩:=st;exact⟨k z (by simp) _ hz,k TI (by simp) _ M,⟨a,c,k TO (by simp) _ O⟩,U.upon λo e=>k i1 (by simp) o e,t2.upon λo e=>k i2 (by simp) o e⟩
 item:=by
  intro X hP hw hK hc i ac s σ H E I hf st hg;subst hP hw hK;obtain⟨hz,M,⟨a,c,O⟩,U,t2⟩:=st;obtain⟨xs,ys,x,y,q1,q2,hx,hy⟩:=hg;obtain⟨its,r1,p1,z1⟩:=q1.vals I;obtain⟨wE,r2,p2,z2⟩:=q2.vals I;obtain⟨u,hu,ru⟩:=r1.get hx;obtain⟨v,hv,rv⟩:=r2.get hy;have hT:s.TypeIs (.ref z) "zip":=⟨_,hz,rfl⟩;have fresh:H s.heap.objs.size=none:=I.hok.fresh (vT _);have lt:∀ {c o},s.heap.get? c=some o->c≠s.heap.objs.size:=λe=>vS (vX e);have l1:i1≠s.heap.objs.size:=by obtain⟨o,e,_⟩:=U.ob;exact lt e
  have l2:i2≠s.heap.objs.size:=by obtain⟨o,e,_⟩:=t2.ob;exact lt e
  unfold pyNext;refine wX (wpAny_attempt (wpAny_callSpecial?_slot (name:=Str.ofString "__next__") hT PySem.F.slot_zip_next (wpAny_call_entry PySem.F.slot_zip_next hT PySem.F.entry_zip_next (sk D m1 m2 hz M O U t2 p1 p2 (by simpa using hu) (by simpa using hv) λh' b1 b2 b3 b4 b5 b6 bk=>wY ?_) (PySem.F.args_zip_next_1 _))));refine⟨_,rfl,wpAny_letOwnedTupleGo_zip (s:={ s with heap:=h' }) b1 λh2 c1 s2=>?_⟩;have G:Heap.SameBut z h' h2:=s2;have kk:∀b o,b∉[z,TI,TO,i1,i2]->s.heap.get? b=some o->h2.get? b=some o:=λb o hb e=>
   G.extBut _ _ (λq=>hb (by simp[q])) (bk b o (λq=>hb (by simp[q])) (λq=>hb (by simp[q])) (λq=>hb (by simp[q])) (λq=>hb (by simp[q])) e)
  have I1:Inv X ac σ H { s with heap:=h2 }:=pF (t':=s.toks) I hf kk;have zT:s.heap.objs.size≠z:=(lt hz).symm;have new:bN X.prog X.w (upd H s.heap.objs.size (.tup [x,y])) h2 s.heap.objs.size (.tup [x,y]):=⟨by show 2<=sizeLine;decide,[u,v],.cons ru (.cons rv .nil),⟨_,G.extBut _ _ zT b5,rfl,_,rfl⟩⟩;refine⟨.ref s.heap.objs.size,upd H s.heap.objs.size (.tup [x,y]),?_,rfl,⟨_,x,y,rfl,fresh,rfl,λzs hq=>by rw[kc.inj I hq q1];exact hx,λzs hq=>by rw[kc.inj I hq q2];exact hy⟩,?_,λb hb=>?_⟩
  ·exact Av (s:=s) (t':=s.toks) I hf kk (vT _) new
  ·exact⟨c1,G.extBut _ _ D.tz (bk _ _ D.tz D.to D.ta D.tb M),⟨_,_,G.extBut _ _ D.oz b2⟩,b3.upon λo e=>G.extBut _ _ D.az e,b4.upon λo e=>G.extBut _ _ D.bz e⟩
  ·have zh:b≠s.heap.objs.size:=by
    simp at hb;rcases hb with rfl|rfl|rfl|rfl|rfl
    ·exact lt hz
    ·exact lt M
    ·exact lt O
    ·exact l1
    ·exact l2
   rw[aK zh];exact(hf b hb).1
 done:=by
  intro X hP hw hK hc i ac s σ H E I hf st hg;subst hP hw hK;obtain⟨hz,M,⟨a,c,O⟩,U,t2⟩:=st;obtain⟨xs,ys,q1,q2,hl⟩:=hg;obtain⟨its,r1,p1,z1⟩:=q1.vals I;obtain⟨wE,r2,p2,z2⟩:=q2.vals I;have hT:s.TypeIs (.ref z) "zip":=⟨_,hz,rfl⟩;have n1:=r1.length;have n2:=r2.length;unfold pyNext;refine wX (wpAny_attempt (wpAny_callSpecial?_slot (name:=Str.ofString "__next__") hT PySem.F.slot_zip_next (wpAny_call_entry PySem.F.slot_zip_next hT PySem.F.entry_zip_next (uL (I.ok.hd hc) D m1 m2 hz M O U t2 p1 p2 (hl.imp (λq=>by simp;omega) λq=>by simp;omega) λh' x hk hX=>?_) (PySem.F.args_zip_next_1 _))));obtain⟨o,eo,co⟩:=hX;refine wX (wpAny_isInstance (T:="StopIteration") (b:=true) ⟨o,eo,co⟩ isSubtype_stop (wY ⟨rfl,?_⟩));exact pF (t':=s.toks) I hf λb o hb e=>hk b o (λq=>hb (by simp[q])) (λq=>hb (by simp[q])) (λq=>hb (by simp[q])) (λq=>hb (by simp[q])) e
 self:=λ_ _ _ _ _ st h=>wpAny_pyIter_zip st.1 h
section
variable {X:Cx}{a b e:Expr}{pos:Pos}{p:Pos}
def Aw:bootBuiltins "zip" = some (.type "zip"):=by decide +kernel
def Ax (K:Frag)(ta:TA):TI:=λσ H R=>ta σ H λvs G=>∃(k1 k2:Bool)(M O:Addr)(xs ys:LV),vs=[.ref M,.ref O]/\kc k1 K G M xs/\kc k2 K G O ys/\R (Cj K k1 k2 M O) G
def xW {es:QD}{kt:Nat}{pt:Pos}{ta:TA}(hg:Gl X "zip")(hm:X.mg "zip" = none)(ha:PA X [a,b] ta)(hs:starEach [a,b] X.env=[(false,eval a X.env),(false,eval b X.env)]:=by rfl)(O:starEach [b] X.env=[(false,eval b X.env)]:=by rfl):
  PI X (.Tuple es kt pt) (.Call (.Name "zip" p) [a,b] [] pos) (Ax X.K ta):=by
 intro ac s σ H R I h;refine Call_ (jw I hg hm Aw (PyProof.Rows.callWith_type1 (bV (ha pos ac s σ H _ I h) λus s1 ⟨vs,H1,T,r1,q1⟩=>?_) (by rw[hs,O]) (by rw[O];rfl)));obtain⟨k1,k2,l1,l2,xs,ys,rfl,h1,h2,q⟩:=q1;obtain⟨u1,u2,rfl,Fe,Ff⟩:=r1.two;cases Fe
 cases Ff
 obtain⟨its,v1,p1,z1⟩:=h1.vals T;obtain⟨wE,v2,p2,z2⟩:=h2.vals T;have AA:=p1.lt;have G:=p2.lt;refine uK p1 p2 λh' c1 c2 c3 c4 c5 ck=>?_;have D:ZApart (s1.heap.objs.size+4) (s1.heap.objs.size+2) (s1.heap.objs.size+3) s1.heap.objs.size (s1.heap.objs.size+1):=by
  constructor<;>(intro z;exact absurd z (by first|exact vS (Nat.add_lt_add_left (by decide) _)|exact ne_of_gt (Nat.add_lt_add_left (by decide) _)|exact vS (Nat.lt_add_of_pos_right (by decide))|exact ne_of_gt (Nat.lt_add_of_pos_right (by decide))))
 have M:∀ {l:Addr}(n:Nat),l<s1.heap.objs.size->l≠s1.heap.objs.size+n:=λn hl=>vS (vQ hl (le_add_right _ n));refine wpAny_pyIter_zip c1 ⟨s1.heap.objs.size+4,[s1.heap.objs.size+4,s1.heap.objs.size+2,s1.heap.objs.size+3,s1.heap.objs.size,s1.heap.objs.size+1],_,_,H1,rfl,T.kept (t':=s1.toks) ck,
  sn D ⟨M 4 AA,M 3 AA,M 0 AA⟩ ⟨M 4 G,M 3 G,M 0 G,M 1 G⟩,⟨c1,c2,⟨_,_,c3⟩,c4,c5⟩,λb hb=>?_,q⟩
 have U:s1.heap.objs.size<=b:=by
  simp at hb;rcases hb with rfl|rfl|rfl|rfl|rfl
  ·exact le_add_right _ 4
  ·exact le_add_right _ 2
  ·exact le_add_right _ 3
  ·exact vT _
  ·exact le_add_right _ 1
 exact T.fpOk U (T.hok.fresh U)
noncomputable def jm (xs ys:LD):LD:=List.zipWith (λx y=>.tup [x,y]) xs ys
@[simp] def uM (G M:FE):FA:=λρ=>(G ρ).bind λx=>(M ρ).bind λy=>(gU x.1).bind λxs=>(gU y.1).map λys=>jm xs ys
def so {K:Frag}{B:Hp}{v:V}{d:D}{ds:LD}(h:Is K B v d)(e:gU d=some ds):∃k a vs,v=.ref a/\kc k K B a vs/\IsL K B vs ds:=by
 cases h with
 |tup G hl=>cases e;exact⟨false,_,_,rfl,G,hl⟩
 |lst G hl=>cases e;exact⟨true,_,_,rfl,G,hl⟩
 |_=>cases e
def xX {H s}(I:Inv X ac σ H s)(h1:kc k1 X.K N l1 vs)(i1:IsL X.K N vs ds)(h2:kc k2 X.K N l2 ws)(i2:IsL X.K N ws es):kl X.K (Cj X.K k1 k2 l1 l2) N (jm ds es):=by
 intro i H' sm;have n1:=i1.length;have n2:=i2.length;refine⟨λd ed=>?_,λhl=>⟨vs,ws,h1.same sm,h2.same sm,?_⟩⟩
 ·unfold jm at ed;rw[List.getElem?_zipWith]at ed;cases G:ds[i]? with
  |none=>rw[G]at ed;simp at ed
  |some x=>
   cases M:es[i]? with
   |none=>rw[G,M]at ed;simp at ed
   |some y=>
    rw[G,M]at ed;simp at ed;subst ed;obtain⟨v,U,iv⟩:=i1.get G;obtain⟨w,ew,iw⟩:=i2.get M;refine⟨⟨vs,ws,v,w,h1.same sm,h2.same sm,U,ew⟩,λr H2 hy=>?_⟩;obtain⟨T,v',w',rfl,hT,rfl,f1,f2⟩:=hy;have e3:=f1 vs (h1.same sm);have e4:=f2 ws (h2.same sm);rw[U]at e3;cases e3;rw[ew]at e4;cases e4;have O:=Ext.laid (o:=.tup [v,w]) sm hT;exact⟨_,O,.tup (eS.of aM) (.cons (iv.mono O.bn) (.cons (iw.mono O.bn) .nil))⟩
 ·unfold jm at hl;rw[List.length_zipWith]at hl;omega
def sr {es:QD}{kt:Nat}{pt:Pos}{fa fb:FE}(hm:X.mg "zip" = none)(ha:JE X a fa)(hb:JE X b fb)(hg:Gl X "zip":=by rfl)(hs:starEach [a,b] X.env=[(false,eval a X.env),(false,eval b X.env)]:=by rfl)(M:starEach [b] X.env=[(false,eval b X.env)]:=by rfl):
  JI X (.Tuple es kt pt) (.Call (.Name "zip" p) [a,b] [] pos) (uM fa fb):=by
 intro ac s σ H R I q;refine xW hg hm (af ha (af hb ah M) (by rw[hs,M])) hs M ac s σ H R I ?_;obtain⟨B,ρ,ds,sB,r,G,q⟩:=q;obtain⟨x1,ex,G⟩:=oX G;obtain⟨y1,ey,G⟩:=oX G;obtain⟨xs,O,G⟩:=oX G;obtain⟨ys,T,G⟩:=oY G;subst G;refine⟨B,ρ,[x1.1,y1.1],sB,r,by simp[aa,ag,ex,ey],λvs H1 N1 U i1=>?_⟩;cases i1 with
 |cons j1 j2=>
  cases j2 with
  |cons j2 j3=>
   cases j3
   obtain⟨k1,l1,us,rfl,s1,m1⟩:=so j1 O;obtain⟨k2,l2,ws,rfl,s2,m2⟩:=so j2 T;exact⟨k1,k2,l1,l2,us,ws,rfl,s1.same U.nh,s2.same U.nh,q _ H1 N1 U (xX I s1 m1 s2 m2)⟩
end
@[simp] def oh:FS:=λ_=>none
inductive CRows (K:Frag)(P:Params):List DictEntry->List (Str×D)->Prop where
 |nil:CRows K P [] []
 |tup {x:Str}{t:Tok}{h:Int}{a:Addr}{its:Array Value}{n:Nat}{kf:Array (Option Value)}{ds:List D}{r:List DictEntry}{aI:List (Str×D)}(hh:h=PyData.keyHash P x)
   (l:K.lookup a=some ⟨.type "tuple",none,.seq its n,kf⟩) (f:(decide (its.size<=1000) && fE its.toList ds)=true) (tl:CRows K P r aI):CRows K P (⟨h,.str x t,.ref a⟩::r) ((x,.tup ds)::aI)
 |flat {x:Str}{t:Tok}{h:Int}{u:Value}{d:D}{r:List DictEntry}{aI:List (Str×D)}(hh:h=PyData.keyHash P x) (f:lI u d=true) (tl:CRows K P r aI):CRows K P (⟨h,.str x t,u⟩::r) ((x,d)::aI)
theorem CRows.lit {K:Frag}{P:Params}:∀ {es:List DictEntry}{aI:List (Str×D)},CRows K P es aI->PySem.W.KeysLit P es
 |_,_,.nil=>trivial
 |_,_,.tup hh _ _ tl=>⟨⟨_,_,rfl,hh⟩,tl.lit⟩
 |_,_,.flat hh _ tl=>⟨⟨_,_,rfl,hh⟩,tl.lit⟩
theorem CRows.find {K:Frag}{P:Params}(y:Str):∀ {es:List DictEntry}{aI:List (Str×D)},CRows K P es aI->match aI.lookup y with
  |none=>es.find? (λe=>Value.isStrOf y e.key)=none
  |some d=>∃e v,es.find? (λe=>Value.isStrOf y e.key)=some e/\aT v e.val/\∀B,Is K B v d
 |_,_,.nil=>rfl
 |_,_,.tup (x:=x) (t:=t) (a:=a) (ds:=ds) hh l f tl=>by
  by_cases e:y=x
  ·subst e;rw[lookup_cons_self];rw[vD]at f;obtain⟨vs,r,i⟩:=fF (K:=K) f.2;exact⟨_,.ref a,List.find?_cons_of_pos (by simp[Value.isStrOf]),rfl,λB=>.tup (.inr ⟨_,_,_,l,rfl,rfl,le_of_lt (Nat.lt_of_le_of_lt (of_decide_eq_true f.1) (by decide)),r⟩) (i B)⟩
  ·have G:=tl.find y;rw[lookup_cons,beq_eq_false_iff_ne.mpr e];have M:Value.isStrOf y (Value.str x t)=false:=by
    rw[Bool.eq_false_iff];intro z;obtain⟨t',q⟩:=Value.isStrOf_shape z;injection q with O;exact e O.symm
   simp only[find?_cons,M];exact G
 |_,_,.flat (x:=x) (t:=t) (u:=u) (d:=d) hh f tl=>by
  by_cases e:y=x
  ·subst e;rw[lookup_cons_self];obtain⟨v,U,_⟩:=gl (K:=K) (B:=λ_=>none) f;refine⟨_,v,List.find?_cons_of_pos (by simp[Value.isStrOf]),U,λB=>?_⟩;obtain⟨v',T,i'⟩:=gl (K:=K) (B:=B) f;have:v'=v:=by have z1:=U.abs;rw[T.abs]at z1;exact vK z1
   subst this;exact i'
  ·have G:=tl.find y;rw[lookup_cons,beq_eq_false_iff_ne.mpr e];have M:Value.isStrOf y (Value.str x t)=false:=by
    rw[Bool.eq_false_iff];intro z;obtain⟨t',q⟩:=Value.isStrOf_shape z;injection q with O;exact e O.symm
   simp only[find?_cons,M];exact G
def gY (K:Frag)(P:Params)(a:Addr)(aI:List (Str×D)):Prop:=∃es n,K.lookup a=some ⟨.type "dict",none,.dict es n,#[]⟩/\CRows K P es.toList aI/\(a == sysModules)=false
def const_dict {K:Frag}{P:Params}{y:Str}{a:Addr}{es:Array DictEntry}{n:Nat}{aI:List (Str×D)}(e:nsIn K mainGlobals y=some (some (.ref a)))(l:K.lookup a=some ⟨.type "dict",none,.dict es n,#[]⟩)(r:CRows K P es.toList aI)(s:(a == sysModules)=false):
  ∃a,nsIn K mainGlobals y=some (some (.ref a))/\gY K P a aI:=⟨a,e,es,n,l,r,s⟩
section
variable {X:Cx}{a b e:Expr}{pos:Pos}{x:Str}{p:Pos}
def gY.map {ac:AO}{σ:St}{H:Hp}{s:Shared}{d:Addr}{aI:List (Str×D)}(I:Inv X ac σ H s)(h:gY X.K X.w.params d aI):∃f:SV,s.heap.MapOf (strKind X.prog X.w) d f/\(d == sysModules)=false /\
  ∀y,match aI.lookup y with|none=>f y=none|some G=>∃u v,f y=some u/\aT v u/\∀B,Is X.K B v G:=by
 obtain⟨es,n,l,r,sm⟩:=h;refine⟨_,PySem.W.mapOf_K I.kIn l r.lit,sm,λy=>?_⟩;have:=r.find y;have M:findBy Value.isStrOf es y=(es.toList.find? λe=>Value.isStrOf y e.key).map (·.val):=by
  unfold findBy;obtain⟨es⟩:=es;rw[List.find?_toArray]
 cases hl:aI.lookup y with
 |none=>rw[hl]at this;dsimp only at this ⊢;rw[M,this];rfl
 |some G=>
  rw[hl]at this;obtain⟨O,v,T,U,e3⟩:=this;exact⟨O.val,v,by rw[M,T];rfl,U,e3⟩
@[simp] noncomputable def gH (aI:List (Str×D)):D->OB
 |.str y=>(aI.lookup y).map λd=>(d,false)
 |_=>none
@[simp] noncomputable def jG (aI:List (Str×D)):D->OB
 |.str y=>some (.bl (!(aI.lookup y).isSome),false)
 |_=>none
def pG (h:∃d,X.mg x=some (.ref d)/\gY X.K X.w.params d aI)(hb:JE X b f)(hg:Gl X x:=by rfl)(hd:(x == ("__debug__" : Str))=false:=by decide)(hs:gO b:=by intro _ _;rfl):JE X (.Subscript (.Name x p) b pos) (f1 (gH aI) f):=by
 obtain⟨d,hm,cd⟩:=h;have ix:rm X (λx y H Q=>∃z M,x=.ref d/\y=.str z/\aI.lookup z=some M/\∀v,(∀B,Is X.K B v M)->Q v H):=by
  intro O T ac s σ H x y v u Q I rx ry q hs;obtain⟨z,M,rfl,rfl,el,q⟩:=q;cases rx
  obtain⟨t,rfl⟩:=ry;obtain⟨f,hM,sm,hf⟩:=cd.map I;have:=hf z;rw[el]at this;obtain⟨u,v,U,e2,e3⟩:=this;exact tail_any hM.typeIs slot_dict_getitem.lookup (wpAny_getItem_of (strKind_is X.prog X.w z t) hM U ⟨v,H,I.tok _,e2,q v e3⟩) hs
 refine PE.to (pd ix (jp (v:=.ref d) hg hm rfl hd) hb hs) λσ H Q q=>?_;obtain⟨B,ρ,d',bb,sB,r,G,q⟩:=q;obtain⟨x1,ex,G⟩:=oX G;refine⟨B,ρ,x1.1,x1.2,sB,r,ex,λv H1 N1 xt i1 _=>?_⟩;obtain⟨xd,xb⟩:=x1;cases i1<;>try (simp[gH]at G;done)
 rename_i z _;simp only[gH]at G;obtain⟨M,U,e2⟩:=oY G;cases e2
 exact⟨z,_,rfl,rfl,U,λv hv=>(q.into xt).one xt.nh (hv _)⟩
@[simp] noncomputable def bS:LD->OB
 |[.lst ds]=>some (.lst ds,true)
 |[.tup ds]=>some (.lst ds,true)
 |_=>none
@[simp] noncomputable def bZ:LD->OB
 |[.lst ds]=>some (.tup ds,false)
 |[.tup ds]=>some (.tup ds,false)
 |_=>none
def oi:bT X (.type "list") (tM X.K bS):=by
 refine bT.to l5 λxs H Q q=>?_;obtain⟨B,ds,d,U,O,i,G,q⟩:=q;cases i with
 |nil=>simp[bS]at G
 |cons i1 i2=>
  cases i2 with
  |cons _ _=>cases i1<;>simp[bS]at G
  |nil=>
   cases i1<;>try (simp[bS]at G;done)
   ·rename_i T vs es h hl;simp only[bS]at G;cases G
    refine⟨_,_,rfl,.inr (bf O h),λl hp=>?_⟩;have M:=Ext.laid (o:=.lst vs) O hp;exact q _ _ _ M (.lst (fz.of aM) (hl.mono M.bn)) λ_=>⟨_,_,_,rfl,rfl,hp,aM,hl.mono M.bn⟩
   ·rename_i T vs es h hl;simp only[bS]at G;cases G
    refine⟨_,_,rfl,.inl (O.seq h),λl hp=>?_⟩;have M:=Ext.laid (o:=.lst vs) O hp;exact q _ _ _ M (.lst (fz.of aM) (hl.mono M.bn)) λ_=>⟨_,_,_,rfl,rfl,hp,aM,hl.mono M.bn⟩
def gm:bT X (.type "tuple") (tM X.K bZ):=by
 refine bT.to kj λxs H Q q=>?_;obtain⟨B,ds,d,U,M,i,G,q⟩:=q;cases i with
 |nil=>simp[bZ]at G
 |cons i1 i2=>
  cases i2 with
  |cons _ _=>cases i1<;>simp[bZ]at G
  |nil=>
   cases i1<;>try (simp[bZ]at G;done)
   ·rename_i T vs es h hl;simp only[bZ]at G;cases G
    exact⟨_,_,rfl,.inr ⟨bf M h,q.one M (.tup h hl)⟩⟩
   ·rename_i T vs es h hl;simp only[bZ]at G;cases G
    refine⟨_,_,rfl,.inl ⟨M.seq h,λl hp=>?_⟩⟩;have O:=Ext.laid (o:=.tup vs) M hp;exact q _ _ _ O (.tup (eS.of aM) (hl.mono O.bn)) (by simp)
end
section
variable {X:Cx}{a b e:Expr}{pos:Pos}{x:Str}{p:Pos}
def ss (K:Frag)(n:Nat)(t:vM):TG:=λv σ H Q=>∃k a xs,v=.ref a/\kc k K H a xs/\xs.length=n/\t xs σ H Q
def xY (hc:X.calm=true)(h:zw X es t)(hn:(assignEach es X.env).length=n:=by rfl)(G:(assignEach es X.env).findIdx? (·.1)=none:=by rfl):PG X (.Tuple es kt pos) (ss X.K n t):=by
 intro ac s σ H v u Q I r hw;obtain⟨k,l,xs,rfl,hq,hl,hw⟩:=hw;cases r
 cases k with
 |false=>
  obtain⟨its,M,O,hz⟩:=I.tuple hq;refine assign_Tuple_tuple (I.ok.hd hc) O (by simp[hn,←hl,M.length]) G λh' hx=>?_;have T:Inv X ac σ H { s with heap:=h' }:=I.kept (t':=s.toks) λb o e=>hx b o (vS (vX e)) e;exact h ac _ σ H xs _ Q T (by simpa using M) hw
 |true=>
  obtain⟨its,M,O,hz⟩:=I.list hq;rw[assign_Tuple];refine wX (wpAny_standAt ?_);unfold unpack;have U:(assignEach es X.env).length=its.toArray.size:=by simp[hn,←hl,M.length]
  rw[U,G];refine wX (wpAny_holding (PySem.W.kun_itemsOf (I.ok.hd hc) O.isList λh' hx=>?_));have T:Inv X ac σ H { s with heap:=h' }:=I.kept (t':=s.toks) λb o e=>hx b o (vS (vX e)) e;exact h ac _ σ H xs _ Q T (by simpa using M) hw
@[simp] def mH (is:LN)(f:FE):FS:=λρ=>(f ρ).bind λx=>(gU x.1).bind λds=>(dN is ds (if cc ds=true then ρ else unown ρ)).map .nx
def su {K:Frag}{is:LN}{f:FE}{E:Ends}{σ:St}{H:Hp}(q:kE K (mH is f) E σ H):qi (tD K f) (ss K is.length (i0 is)) E σ H:=by
 obtain⟨B0,H0,ρ,r,⟨N,s⟩,e,p⟩:=q;obtain⟨x,ex,e⟩:=oX e;obtain⟨ds,es,e⟩:=oX e;obtain⟨ρ',G,e⟩:=oY e;subst e;refine⟨N,ρ,x.1,x.2,s.ext.nh,s.rep,ex,λv U N1 x1 i1 _=>?_⟩;obtain⟨k,a,vs,rfl,sq,O⟩:=so i1 es;have s1:=s.grow x1;refine⟨k,a,vs,rfl,sq.same x1.nh,by rw[O.length];exact i7 G,?_⟩;by_cases hn:cc ds=true
 ·rw[if_pos hn]at G;exact i6 s1 (s1.flats O hn) G λM T=>p M U ⟨N1,T⟩
 ·rw[if_neg hn]at G;exact i6 s1.unown (O.mono λa o e=>by rw[ce iq];exact e) G λM T=>p M U ⟨N1,T⟩
def uN (he:JE X e f)(G:PG X (.Tuple es kt p2) (ss X.K is.length (i0 is)))(hs:swapsWithSole [.Tuple es kt p2] e pos.line X.env=pure false:=by rfl)(hw:swappedStores [.Tuple es kt p2] e X.env=pure none:=by rfl)
  (h1:(assignEach [.Tuple es kt p2] X.env).map (·.2)=[assign (.Tuple es kt p2) X.env]:=by rfl):JS X (.Assign [.Tuple es kt p2] e pos) (mH is f):=PS.to (nB he G hs hw h1) λ_ _ _ q=>su q
@[simp] def Em (i:Nat)(f:FE):FS:=λρ=>match ρ[i]? with
 |some (some (.lst ds,true))=>(f ρ).bind λx=>match x.1 with
  |.lst es=>if x.2=true/\cc es=true/\ds.length+es.length<=sizeLine then some (.nx (ρ.set i (some (.lst (ds++es),true))))else none
  |_=>none
 |_=>none
end
open AutoSeq1 (wpAny_loadPart')
set_option maxRecDepth 100000
end DL
namespace DL
open PySem PySem.Spec PyProof.Rows
structure TabT (w:World)(es:Array (Int×Value))(t:SetTable):Prop where
 fits:t.fits es.size=true
 led:t.led = !w.params.followText "set-order"
 plain:es.size≠0->t.plain=false
def xZ (prog:Program)(w:World)(h:Heap)(a:Addr)(G:LS):Prop :=
 ∃o es M t,h.get? a=some o/\o.ExactSet/\o.data=.set es M t/\ElemsOf (PySem.strKind prog w) es.toList/\(es.toList.map (λe=>strOf e.2)).Perm G/\G.Nodup/\G.length<scanBound/\TabT w es t
theorem StrsAre.at:∀ {vs:LU}{G:LS},StrsAre vs G->∀(i:Nat)(v:Value),vs[i]? = some v->∃x t,v=.str x t/\G[i]? = some x
 |_,_,.nil,i,v,h=>by simp at h
 |_,_,.cons x t hr,0,v,h=>by simp at h;exact⟨x,t,h.symm,rfl⟩
 |_,_,.cons x t hr,i+1,v,h=>by
  simp only[List.getElem?_cons_succ]at h;exact StrsAre.at hr i v h
def xZ.at (x:xZ prog w h a ts)(k:∀o,h.get? a=some o->h'.get? a=some o):xZ prog w h' a ts:=by
 obtain⟨o,es,G,t,M,r⟩:=x;exact⟨o,es,G,t,k o M,r⟩
end DL
namespace DL
open PySem PySem.Spec PySem.W PyProof.Rows
inductive Run (n:Nat)(lt:Nat->Nat->Bool){α:Type}:KasT α->α->Prop where
 |ret (a:α):Run n lt (.ret a) a
 |ask {i j:Nat}{k:Bool->KasT α}{a:α}(hi:i<n) (hj:j<n) (h:Run n lt (k (lt i j)) a):Run n lt (.ask i j k) a
def Run.bind {n:Nat}{lt:Nat->Nat->Bool}{α G:Type}{t:KasT α}{f:α->KasT G}{a:α}{b:G}(h:Run n lt t a)(k:Run n lt (f a) b):Run n lt (t.bind f) b:=by
 induction h with
 |ret a=>exact k
 |ask hi hj _ M=>exact .ask hi hj (M k)
section
variable {n:Nat}{rk:Nat->Int}
structure Arr (n:Nat)(p:Array Nat):Prop where
 size:p.size=n
 perm:p.toList.Perm (List.range n)
def Arr.lt {p:Array Nat}(h:Arr n p){k:Nat}(hk:k<n):p.getD k 0<n:=by
 have G:k<p.size:=by rw[h.size];exact hk
 have:p.getD k 0=p[k]:=by rw[Array.getD_eq_getD_getElem?,Array.getElem?_eq_getElem G];rfl
 rw[this];exact mem_range.mp (h.perm.mem_iff.mp (by simp))
end
section
variable {α:Type}(f:α->LI)
noncomputable def Ay (x:α):List α->List α
 |[]=>[x]
 |y::r=>if f y<f x then y::Ay x r else x::y::r
def Az (l:List α):List α:=l.foldr (Ay f) []
end
inductive At where
 |i (n:Int)
 |s (z:Str)
noncomputable def En:At->LI
 |.i n=>[n]
 |.s z=>z.cps.toList.map (λ(c:Nat)=>(c:Int)+1)++[0]
def A0 (xs:List At):LI:=xs.flatMap En
noncomputable def ya:List At->List At->Option Bool
 |[],ys=>some (!ys.isEmpty)
 |_::_,[]=>some false
 |.i a::xs,.i b::ys=>if a=b then ya xs ys else some (decide (a<b))
 |.s a::xs,.s b::ys=>if a=b then ya xs ys else some (decide (a.cps.toList<b.cps.toList))
 |_::_,_::_=>none
noncomputable def A1 (ks:List (List At)):Bool:=ks.all λx=>ks.all λy=>(ya x y).isSome
def Eo:At->Value->Prop
 |.i n,v=>∃t,v=.int n t
 |.s z,v=>∃t,v=.str z t
def sv (h:Heap)(xs:List At)(v:Value):Prop:=∃a o its n,v=.ref a/\h.get? a=some o/\o.cls=.type "tuple"/\o.data=.seq its n/\Paired Eo xs its.toList
def sv.keep (x:sv h xs v)(k:∀a o,o.cls=.type "tuple"->h.get? a=some o->h'.get? a=some o):sv h' xs v:=by
 obtain⟨a,o,its,n,e,G,hc,r⟩:=x;exact⟨a,o,its,n,e,k a o hc G,hc,r⟩
noncomputable def sw (ks:List (List At)):Bool:=ks.all (λx=>match x with|.i _::_=>true|_=>false) || ks.all (λx=>match x with|.s _::_=>true|_=>false)
end DL
namespace DL
open PySem PySem.Spec PySem.W PyProof.Rows L2
noncomputable def A2:D->Option At
 |.int n=>some (.i n)
 |.str z=>some (.s z)
 |_=>none
def oj:LD->Option (List At)
 |[]=>some []
 |d::ds=>(A2 d).bind λa=>(oj ds).map (a :: ·)
def Ck:D->Option (List At)
 |.tup es=>oj es
 |_=>none
def wt:LD->Option (List (List At))
 |[]=>some []
 |d::ds=>(Ck d).bind λa=>(wt ds).map (a :: ·)
section
variable {X:Cx}
theorem gj:∀ {its:LU}{zs:LI},IntsAre its zs->aX (zs.map V.int) its
 |_,_,.nil=>.nil
 |_,_,.cons x t r=>.cons ⟨t,rfl⟩ (gj r)
end
end DL
namespace DL
open PySem PySem.Spec PyProof.Rows L2
section
variable {X:Cx}{a:Expr}{pos:Pos}{x:Str}{p:Pos}{d:Addr}{aI:List (Str×D)}
def qD (M:gY X.K X.w.params d aI):cF X (compareOp .NotIn) (λx y H Q=>∃z,x=.str z/\y=.ref d/\Q (.bl (!(aI.lookup z).isSome)) H):=by
 rintro ac s σ H _ _ v u Q I O T ⟨z,rfl,rfl,q⟩;cases T
 obtain⟨t,rfl⟩:=O;obtain⟨f,U,sm,hf⟩:=M.map I;refine wpAny_notIn_of (strKind_is X.prog X.w z t) sm U ⟨.bl (!(aI.lookup z).isSome),H,I.tok _,?_,q⟩;have:=hf z;cases G:aI.lookup z with
 |none=>rw[G]at this;dsimp only at this;rw[this];rfl
 |some dd=>rw[G]at this;obtain⟨_,_,e1,_⟩:=this;rw[e1];rfl
def qE (h:∃d,X.mg x=some (.ref d)/\gY X.K X.w.params d aI)(ha:JE X a f)(U:Gl X x:=by rfl)(hd:(x == ("__debug__" : Str))=false:=by decide)(hm:behindInMarks .NotIn (.Name x p)=false:=by rfl):JT X (.Compare a [.NotIn] [.Name x p] pos) (aO (f1 (jG aI) f)):=by
 obtain⟨d,M,cd⟩:=h;refine PT.to (oR (qD cd) ha (jp (v:=.ref d) U M rfl hd) hm) λσ H Q q=>?_;obtain⟨B,ρ,d',bb,sB,r,G,q⟩:=lC q;obtain⟨O,ex,G⟩:=oX G;refine⟨B,ρ,O.1,O.2,sB,r,ex,λv H1 N1 T i1 fr=>?_⟩;obtain⟨xd,xb⟩:=O;cases i1<;>try (simp[jG]at G;done)
 rename_i z;simp only[jG]at G;cases G
 exact⟨z,rfl,rfl,(q.into T).one T.nh (.bl _)⟩
end
section
variable {prog:Program}{w:World}{A:Around}{E:QV}{s:Shared}
def om {a:Addr}{o:Obj}{its:AV}{n:Nat}{x:Value}{e:Value->Bool}{j:Nat}{P:PySem.Fin->Shared->Prop}(ho:s.heap.get? a=some o)(hd:o.data=.seq its n)
  (he:∀y∈its,MeetsSeq.EqGives y x (e y)) (hj:j<its.size) (M:e its[j]=true) (O:∀m (hm:m<its.size),m<j->e its[m]=false)
  (h:P (.done (.ret (.int j s.toks))) { s with toks:=s.toks+1 }):wpAny (model prog w) A (Builtin.«tuple.index» ⟨[.ref a,x],[]⟩) P E s:=by
 show wpAny _ _ (Builtin.Tuple.tupleItemsOf (.ref a)>>=_) _ _ s;refine wX (wpAny_tupleItemsOf ho hd ?_);dsimp only;refine wX (wY (wX (wY (wX ?_))));rw[Std.Legacy.Range.forIn_eq_forIn_range'];refine wpAny_forIn_list _
  (λaW r T=>r.1=none/\T=s/\∃i,i<=j/\aW=List.range' i (its.size - i))
  _ ?_ ?_ _ _ ⟨rfl,rfl,0,zero_le _,?_⟩
 ·rintro k aW r T ⟨hr,rfl,i,hi,hz⟩;have G:i<its.size:=by omega
  obtain⟨m,hm⟩:∃m,its.size - i=m+1:=⟨its.size - i - 1,by omega⟩;rw[hm,List.range'_succ]at hz;injection hz with U z2;have U:=U.symm;subst U;subst z2;have hg:its[i]? = some its[i]:=by simp[G]
  simp only[hg];refine wX (he _ (Array.getElem_mem G) prog w _ _ _ _ ?_);by_cases hij:i=j
  ·subst hij;rw[M];simp only[if_true];refine wX ?_;show wpAny _ _ (mkInt (i:Int)>>=λv=>ret v) _ _ _;exact wX (wpAny_mkInt (wY (wY (wY h))))
  ·rw[O i G (by omega)];simp only[Bool.false_eq_true,if_false];exact wY ⟨rfl,rfl,i+1,by omega,by rw[show its.size - (i+1)=m by omega]⟩
 ·rintro⟨r1,r2⟩ T ⟨hr,rfl,i,hi,hz⟩;exfalso;have:(List.range' i (its.size - i)).length=0:=by rw[←hz];rfl
  rw[List.length_range']at this;omega
 ·simp
end
theorem CRows.findT {K:Frag}{P:Params}(y:Str){ds:LD}:∀ {es:List DictEntry}{aI:List (Str×D)},CRows K P es aI->aI.lookup y=some (.tup ds) ->
  ∃e a its n kf,es.find? (λe=>Value.isStrOf y e.key)=some e/\e.val=.ref a/\K.lookup a=some ⟨.type "tuple",none,.seq its n,kf⟩/\fE its.toList ds=true
 |_,_,.nil,h=>by simp at h
 |_,_,.tup (x:=x) (t:=t) (a:=a) (ds:=O) hh l f tl,h=>by
  by_cases e:y=x
  ·subst e;rw[lookup_cons_self]at h;cases h
   rw[vD]at f;exact⟨_,a,_,_,_,List.find?_cons_of_pos (by simp[Value.isStrOf]),rfl,l,f.2⟩
  ·rw[lookup_cons,beq_eq_false_iff_ne.mpr e]at h;have G:Value.isStrOf y (Value.str x t)=false:=by
    rw[Bool.eq_false_iff];intro z;obtain⟨t',q⟩:=Value.isStrOf_shape z;injection q with M;exact e M.symm
   simp only[find?_cons,G];exact tl.findT y h
 |_,_,.flat (x:=x) (t:=t) (u:=u) (d:=d) hh f tl,h=>by
  by_cases e:y=x
  ·subst e;rw[lookup_cons_self]at h;cases h
   cases u<;>simp[lI]at f
  ·rw[lookup_cons,beq_eq_false_iff_ne.mpr e]at h;have G:Value.isStrOf y (Value.str x t)=false:=by
    rw[Bool.eq_false_iff];intro z;obtain⟨t',q⟩:=Value.isStrOf_shape z;injection q with M;exact e M.symm
   simp only[find?_cons,G];exact tl.findT y h
section
variable {X:Cx}{b e:Expr}{pos:Pos}{x:Str}{p:Pos}
def Cm (K:Frag):V->LV->Hp->VK->Prop:=λx xs H Q=>∃(a:Addr)(o:Obj)(its:AV)(n:Nat)(zs:LS)(y:Str),x=.ref a/\xs=[.str y]/\K.lookup a=some o/\o.cls=.type "tuple"/\o.data=.seq its n/\StrsAre its.toList zs/\zs.findIdx (· == y)<zs.length/\Q (.int (zs.findIdx (· == y):Nat)) H
noncomputable def wu (y:Str):Value->Bool
 |.str z _=>z == y
 |_=>false
theorem pH:∀ {its:LU}{zs:LS},StrsAre its zs->∀(i:Nat)(hi:i<its.length),∃(h:i<zs.length)(t:Tok),its[i]=.str zs[i] t
 |_,_,.cons z t h,0,_=>⟨by simp,t,rfl⟩
 |_,_,.cons z t h,i+1,hi=>by
  obtain⟨h',t',e⟩:=pH h i (by simpa using hi);exact⟨by simpa using h',t',by simpa using e⟩
 |_,_,.nil,i,hi=>by simp at hi
theorem mI:∀ {its:LU}{zs:LS},StrsAre its zs->its.length=zs.length
 |_,_,.nil=>rfl
 |_,_,.cons _ _ h=>by rw[vE,vE,mI h]
def sx:ui X "tuple.index" (Cm X.K):=by
 intro ac s σ H x xs v us Q I T U h;obtain⟨a,o,its,n,zs,y,rfl,rfl,lk,hc,hd,hz,hk,q⟩:=h;cases T
 obtain⟨u,rfl,⟨t,rfl⟩⟩:=U.one;have O:=I.kIn a o lk;have hl:=mI hz;rw[Array.length_toList]at hl;have at':∀(i:Nat)(hi:i<its.size),∃(h:i<zs.length)(t:Tok),its[i]=.str zs[i] t:=λi hi=>by
  obtain⟨h',t',e⟩:=pH hz i (by simpa using hi);exact⟨h',t',by simpa using e⟩
 refine wpAny_call_entry PySem.F.slot_tuple_index ⟨o,O,hc⟩ PySem.F.entry_tuple_index (om (e:=wu y) (j:=zs.findIdx (· == y)) O hd (λz hm=>?_) (by omega) ?_ (λm hm M=>?_) ⟨_,rfl,.int (zs.findIdx (· == y):Nat),H,I.tok _,⟨_,rfl⟩,q⟩) (PySem.F.args_tuple_index_2 _ _)
 ·obtain⟨i,hi,rfl⟩:=Array.mem_iff_getElem.mp hm;obtain⟨_,t',G⟩:=at' i hi;rw[G];exact eqGives_str _ _ _ _
 ·obtain⟨_,t',G⟩:=at' (zs.findIdx (· == y)) (by omega);rw[G];exact List.findIdx_getElem (p:=(· == y)) (w:=hk)
 ·obtain⟨_,t',G⟩:=at' m hm;rw[G];have:=List.not_of_lt_findIdx (p:=(· == y)) (xs:=zs) M;simpa [wu]using this
@[simp] def jn (aI:List (Str×D)):D->D->OB
 |.str y,.str z=>match aI.lookup y with
  |some (.tup ds)=>(gV ds).bind λzs=>if zs.findIdx (· == z)<zs.length then some (.int (zs.findIdx (· == z):Nat),false)else none
  |_=>none
 |_,_=>none
def uO {aI:List (Str×D)}{f g:FE}{dQ cz:Pos}(h:∃d,X.mg x=some (.ref d)/\gY X.K X.w.params d aI)(hb:JE X b f)(he:JE X e g)(hg:Gl X x:=by rfl)(CU:(x == ("__debug__" : Str))=false:=by decide)(hs:gO b:=by intro _ _;rfl)
  (M:attributeBase (.Subscript (.Name x p) b pos) "index" X.env (eval (.Subscript (.Name x p) b pos) X.env)=eval (.Subscript (.Name x p) b pos) X.env:=by rfl)
  (U:((backTo cz (starEach [e] X.env)).all (λx=>!x.1) && (backToKw cz (keywordEach [] X.env)).all (λx=>x.1.isSome)
   && decide ([e].length+([]:List Keyword).length+(if([]:List Keyword).isEmpty then 0 else 1)<30))=true:=by rfl)
  (O:(dQ.endLine == cz.line)=true:=by rfl) (DT:starEach [e] X.env=[(false,eval e X.env)]:=by rfl):
  JE X (.Call (.Attribute (.Subscript (.Name x p) b pos) "index" dQ) [e] [] cz) (f2 (jn aI) f g):=by
 obtain⟨d,hm,cd⟩:=h;have ix:rm X (λx y H Q=>∃z ds,x=.ref d/\y=.str z/\aI.lookup z=some (.tup ds)/\∀a its n kf,X.K.lookup a=some ⟨.type "tuple",none,.seq its n,kf⟩->fE its.toList ds=true->Q (.ref a) H):=by
  intro value slice ac s σ H x y v u Q I rx ry q hs;obtain⟨z,ds,rfl,rfl,el,q⟩:=q;cases rx
  obtain⟨t,rfl⟩:=ry;obtain⟨es,n,l,r,sm⟩:=cd;have hM:=PySem.W.mapOf_K (prog:=X.prog) (w:=X.w) I.kIn l r.lit;obtain⟨en,a,its,n',kf,e1,e2,e3,e4⟩:=r.findT z el;have ff:findBy Value.isStrOf es z=some (.ref a):=by
   unfold findBy;obtain⟨es⟩:=es;rw[List.find?_toArray,e1,←e2];rfl
  exact tail_any hM.typeIs slot_dict_getitem.lookup (wpAny_getItem_of (strKind_is X.prog X.w z t) hM ff ⟨.ref a,H,I.tok _,rfl,q a _ _ _ e3 e4⟩) hs
 refine PE.to (r6 (T:="tuple") PySem.F.plainAttrs_tuple PySem.F.slot_tuple_index PySem.F.type_tuple_index sx (pd ix (jp (v:=.ref d) hg hm rfl CU) hb hs) (gi he jy DT) M U O DT rfl) λσ H Q q=>?_;obtain⟨B,ρ,d',bb,sB,r,G,q⟩:=q;obtain⟨x1,ex,G⟩:=oX G;obtain⟨y1,ey,G⟩:=oX G;obtain⟨xd,xb⟩:=x1;obtain⟨yd,yb⟩:=y1;cases xd with
 |str z=>
  cases yd with
  |str y=>
   refine⟨B,ρ,_,xb,sB,r,ex,λv H1 N1 xt i1 _=>?_⟩;cases i1
   simp only[jn]at G;split at G
   ·rename_i ds el;obtain⟨zs,ez,G⟩:=oX G;split at G
    ·rename_i hk;cases G
     refine⟨z,ds,rfl,rfl,el,λa its n kf l fl=>⟨.inr (.inl ⟨rfl,_,l,rfl,rfl⟩),N1,ρ,_,yb,xt.nh,r.mono xt.bn,ey,λv2 H2 N2 Bp i2 _=>?_⟩⟩;cases i2
     obtain⟨vs,rv,iv⟩:=fF (K:=X.K) fl;exact⟨a,_,its,n,zs,y,rfl,rfl,l,rfl,rfl,gW rv (iv N2) ez,hk,(q.into (xt.trans Bp)).one Bp.nh (.int _)⟩
    ·cases G
   ·cases G
  |_=>simp[jn]at G
 |_=>simp[jn]at G
end
open PySem.W (tabIn tabObj CodeHd kla_fn kla_obj kla_eval kla_makeFunction kla_makeFunctionHit kla_callFunE kla_codeExpr envX)
def yc (H:Hp)(f:Addr)(q:Str)(params:Arguments)(G:Expr)(scope:Scope)(cl:List (Str×Addr)):Prop :=
 ∃pm c M u oc O vs t,H f=some (.frz (kla_obj "<lambda>" q params G scope cl pm c M) u)/\H c=some (.frz oc O)/\oc.data=.fields vs/\vs[1]? = some (.str q t)
def yc.mono (h:yc H f q params body scope cl)(e:aQ H H'):yc H' f q params body scope cl :=
 let ⟨pm,c,G,u,oc,M,vs,t,h1,h2,h3,h4⟩:=h;⟨pm,c,G,u,oc,M,vs,t,e _ _ h1,e _ _ h2,h3,h4⟩
section
variable {P:Program}{w:World}{K:Frag}{mg:SV}{base:Heap}
def eC.fnL {x:Str}{st:Stmt}{N ps:LS}{k:Nat}{g:FS}{h:Heap}(F:eC K x st)(X:K.In h)(G:h.Ns mainGlobals mg)(S:FnScope N ps (aG st))
  (O:∀(kV doc pm:Value)(an:Option Addr)(cL ct:Value)(us:LU),us.length=ps.length->bindArgs (fnOf x x (dv st) (bX st) (aG st) .none kV doc pm an cL ct) ⟨us,[]⟩=pure (ps.zip us))
  (hb:∀(f:Addr)(cL:Value)(A:Around)(outer:List PySem.Env)(s:Shared)(H:Hp)(E:XK),(∀c P,tabIn K x=some (c,P)->cL=.ref c)->dH k (A.deeper (envOfC x (aG st) s.heap.objs.size f cL))->lA (jh nM P w K mg base N x (aG st) f cL A outer s H E).nox (bX st) g):
  Fn P w K mg base (k+1) x (aY g ps.length (N.length - ps.length)):=by
 obtain⟨f,fd,T,a⟩:=F;have F2:=T;obtain⟨oc,od,kV,doc,pm,an,cL,ct,kf,rfl,lk,U⟩:=F2.ex;have hc:∀c P,tabIn K x=some (c,P)->cL=.ref c:=λc P e=>by
  unfold tabIn at e;simp only[a,lk]at e;split at e
  ·rename_i c' _;split at e
   ·split at e
    ·cases e;rfl
    ·cases e
   ·cases e
  ·cases e
 have len:∀vs H Q E,wl K (aY g ps.length (N.length - ps.length)) vs H Q E->vs.length=ps.length:=λvs H Q E h=>by
  obtain⟨B,ds,d,b,sB,i,e,q⟩:=h;unfold aY at e;split at e
  ·rename_i hl;rw[i.length];exact hl
  ·cases e
 refine⟨f,_,ps,wa lk U S len λA outer s H vs Q E hr h=>⟨_,lr.nox (hb f cL A outer s H E hc hr),?_⟩,mg_of X G a,T.kp,T.binds O⟩;have M:=len vs H Q E h;obtain⟨B,ds,d,b,sB,i,e,q⟩:=h;unfold aY at e;rw[if_pos (by rw[←i.length];exact M)]at e;have s0:=ms (N:=N) sB.1 sB.2 i;rw[M]at s0;split at e
 ·rename_i d' b' eg;cases e
  exact⟨B,H,_,_,⟨B,s0⟩,eg,λv H' N' x' i' f'=>q v H' N' x' i' f'⟩
 ·rename_i ρ' eg;cases e
  exact⟨B,H,_,_,⟨B,s0⟩,eg,λσ' H' ⟨N',s'⟩=>q .non H' N' s'.ext .non (by simp)⟩
 ·cases e
end
inductive jZ (X:Cx)(N':List Str)(scope:Scope)(cl:List (Str×Addr)):Nat->List Nat->Prop where
 |nil {j:Nat}(h:N'.length=j):jZ X N' scope cl j []
 |cons {j i:Nat}{r:List Nat}{x:Str}(h1:N'[j]? = some x) (h2:X.N[i]? = some x) (h3:X.env.kindOf x=some .cell∨X.env.kindOf x=some .free)
   (h4:scope.names.lookup x=some .free) (h5:cl.lookup x=X.env.cells.lookup x) (t:jZ X N' scope cl (j+1) r):jZ X N' scope cl j (i::r)
theorem jZ.len:∀ {j:Nat}{cap:LN},jZ X N' scope cl j cap->N'.length=j+cap.length
 |_,_,.nil h=>by rw[h];rfl
 |j,i::r,.cons _ _ _ _ _ t=>by rw[t.len,vE];omega
theorem jZ.get:∀ {j:Nat}{cap:LN}{k i:Nat},jZ X N' scope cl j cap->cap[k]? = some i->∃x,N'[j+k]? = some x/\X.N[i]? = some x/\(X.env.kindOf x=some .cell∨X.env.kindOf x=some .free) /\
  scope.names.lookup x=some .free/\cl.lookup x=X.env.cells.lookup x
 |_,_,_,_,.nil _,e=>by simp at e
 |j,_,0,_,.cons h1 h2 h3 h4 h5 _,e=>by simp at e;subst e;exact⟨_,h1,h2,h3,h4,h5⟩
 |j,_,k+1,i,.cons _ _ _ _ _ t,e=>by
  obtain⟨x,q,r⟩:=t.get (k:=k) (i:=i) (by simpa using e);exact⟨x,by rw[show j+(k+1)=j+1+k by omega];exact q,r⟩
end DL
namespace DL
open PySem PySem.Spec PySem.W PyProof.Rows L2
noncomputable def A3 (f:D->Option D):LD->Option LD
 |[]=>some []
 |d::ds=>(f d).bind λx=>(A3 f ds).map (x :: ·)
def sy (ks:List (List At))(ds:LD):LD:=(Az (λp:List At×D=>A0 p.1) (ks.zip ds)).map (·.2)
@[simp] def sA (M:LD->Option (List (List At)))(ok:List (List At)->Bool)(f:FE)(O:Env->D->Option D):FE:=λρ=>(f ρ).bind λx=>match x.1 with
 |.lst ds=>(A3 (O ρ) ds).bind λG=>(M G).bind λks=>if ks.length<64/\A1 ks=true/\ok ks=true/\(ks.map A0).Nodup then some (.lst (sy ks ds),true)else none
 |_=>none
@[simp] abbrev Cn:FE->(Env->D->Option D)->FE:=sA wt sw
section
variable {prog:Program}{w:World}{A:Around}{E:QV}{s:Shared}{op:CmpOp}
def sv.type (h:sv s.heap xs v):s.TypeIs v "tuple":=by
 obtain⟨a,o,its,n,rfl,G,hc,_⟩:=h;exact⟨o,G,hc⟩
end
end DL
namespace DL
open PySem PySem.Spec PyProof.Rows L2
@[simp] noncomputable def mJ:D->Option dh
 |.int i=>some (.inl i)
 |.str x=>some (.inr x)
 |_=>none
def A4 {K:Frag}{B:Hp}{v:V}{d:D}{k:dh}(i:Is K B v d)(e:mJ d=some k):v=kV k:=by
 cases i<;>simp only[mJ]at e<;>cases e<;>rfl
noncomputable def fT {κ:Type}[DecidableEq κ]:List κ->LD->κ->Option D
 |k'::ks,d::ds,k=>if k'=k then some d else fT ks ds k
 |_,_,_=>none
theorem sC {κ:Type}[DecidableEq κ]{K:Frag}{B:Hp}(k:κ):∀ {ks:List κ}{vs:LV}{ds:LD},ks.length=vs.length->IsL K B vs ds ->
  (∃v d,g0 (ks.zip vs) k=some v/\fT ks ds k=some d/\Is K B v d)∨(g0 (ks.zip vs) k=none/\fT ks ds k=none)
 |[],vs,ds,_,_=>.inr ⟨by cases vs<;>rfl,by cases ds<;>rfl⟩
 |k'::ks,[],_,h,_=>by simp at h
 |k'::ks,v::vs,_,h,.cons i is=>by
  rw[zip_cons_cons];unfold fT;by_cases e:k'=k
  ·rw[if_pos e];exact .inl ⟨v,_,gP (p:=(k',v)) e,rfl,i⟩
  ·rw[if_neg e,gQ (p:=(k',v)) e];exact sC k (by simpa using h) is
section
variable {X:Cx}{o e i:Expr}{pos:Pos}
@[simp] def Fz:D->D->OB
 |.dk ks vs,y=>(mJ y).bind λk=>(fT ks vs k).map λd=>(d,false)
 |_,_=>none
@[simp] def F0:D->D->OB
 |y,.dk ks vs=>(mJ y).map λk=>(.bl (fT ks vs k).isSome,false)
 |_,_=>none
end
section
variable {prog:Program}{w:World}{A:Around}{E:QV}{s:Shared}
abbrev ye (h:Heap)(z TI TO G:Addr)(f:Bool):Prop:=h.get? z=some { cls:=.type "zip",dict:=none,data:=.fields #[rawInt G,.bool f,.bool false,.ref TI,.ref TO],slots:=#[] }
end
def A5 (k1 k2:Bool)(z TI TO i1 i2 M O S:Addr)(i:Nat)(h:Heap):Prop :=
 IsPair h TI (.ref i1) (.ref i2)/\ka k1 h i1 M i/\ka k2 h i2 O i/\((IsZip h z TI TO .none/\∃a b,IsPair h TO a b)∨∃G f T U,ye h z TI TO G f/\h.get? G=some T/\G∉[z,TI,TO,i1,i2]/\G≠S/\h.get? TO=some U)
def A5.keep {k1 k2:Bool}{z TI TO i1 i2 G M S:Addr}{i:Nat}{h h':Heap}(st:A5 k1 k2 z TI TO i1 i2 G M S i h)(O:S∉[z,TI,TO,i1,i2])(k:∀b o,b≠S->h.get? b=some o->h'.get? b=some o):A5 k1 k2 z TI TO i1 i2 G M S i h':=by
 obtain⟨T,U,a3,a4⟩:=st;have n:∀ {b},b∈[z,TI,TO,i1,i2]->b≠S:=λhb e=>O (e ▸ hb);refine⟨k _ _ (n (by simp)) T,U.upon λo e=>k _ o (n (by simp)) e,a3.upon λo e=>k _ o (n (by simp)) e,?_⟩;rcases a4 with⟨b1,a,b,b2⟩|⟨T0,f,oT,oO,b1,b2,b3,b4,b5⟩
 ·exact .inl ⟨k _ _ (n (by simp)) b1,a,b,k _ _ (n (by simp)) b2⟩
 ·exact .inr ⟨T0,f,oT,oO,k _ _ (n (by simp)) b1,k _ _ b4 b2,b3,b4,k _ _ (n (by simp)) b5⟩
section
variable {prog:Program}{w:World}{A:Around}{E:QV}{s:Shared}{k1 k2:Bool}{z TI TO i1 i2 l1 l2 S:Addr}{j:Nat}{xs ys:AV}
def A5.ty (st:A5 k1 k2 z TI TO i1 i2 l1 l2 S j h):∃o,h.get? z=some o/\o.cls=.type "zip":=by
 obtain⟨_,_,_,G⟩:=st;rcases G with⟨b1,_⟩|⟨M,f,O,T,b1,_⟩
 ·exact⟨_,b1,rfl⟩
 ·exact⟨_,b1,rfl⟩
end
def Dq (h:n+40<cLine):n+1<cLine:=by omega
theorem IsL.rep {K:Frag}{H:Hp}{vs:LV}{ds:LD}(h:IsL K H vs ds):∀k:Nat,IsL K H (List.replicate k vs).flatten (List.replicate k ds).flatten
 |0=>.nil
 |k+1=>by rw[replicate_succ,replicate_succ,flatten_cons,flatten_cons];exact h.append (IsL.rep h k)
end DL
namespace DL
open PySem PySem.Spec PySem.W PyProof.Rows L2
noncomputable def jH:List (Str×FE)->Env->Option LS
 |[],_=>some []
 |q::r,ρ=>(q.2 ρ).bind λx=>match x.1 with
  |.str z=>(jH r ρ).map (z :: ·)
  |_=>none
def kK (i:Nat)(G:List (Str×FE)):FS:=λρ=>(jH G ρ).bind λzs=>if(G.map (·.1)).Nodup/\G.length<=15 then some (.nx (ρ.set i (some (.dk (G.map λq=>.inr q.1) (zs.map .str),true))))else none
theorem kL:∀ {G:List (Str×FE)}{ρ:Env}{zs:LS},jH G ρ=some zs->zs.length=G.length
 |[],_,_,h=>by cases h;rfl
 |q::r,ρ,zs,h=>by
  unfold jH at h;obtain⟨x,_,h⟩:=oX h;split at h
  ·obtain⟨M,h1,rfl⟩:=oY h;rw[vE,vE,kL h1]
  ·cases h
section
variable {K:Frag}{E:Ends}{σ:St}{ρ:Env}
theorem kM (rep:di K N σ ρ):∀(G:List (Str×FE))(zs:LS)(H:Hp)(Q:List (V×V)->Hp->Prop),jH G ρ=some zs->aQ N H->(∀H2,aQ H H2->Q (List.zipWith (λq z=>(V.str q.1,V.str z)) G zs) H2)->l7 (G.map λq=>(tD K (fC (.str q.1)),tD K q.2)) σ H Q
 |[],zs,H,Q,e,M,h=>by cases e;exact h H (.refl _)
 |q::r,zs,H,Q,e,M,h=>by
  unfold jH at e;obtain⟨⟨x,xb⟩,ex,e⟩:=oX e;split at e
  ·rename_i z hz;obtain⟨O,e1,rfl⟩:=oY e;have hz:x=.str z:=hz;subst hz;refine⟨N,ρ,.str q.1,false,M,rep,rfl,λv H1 N1 T i1 _=>?_⟩;cases i1
   refine⟨N,ρ,.str z,xb,M.trans T.hh,rep,ex,λv H2 N2 U i2 _=>?_⟩;cases i2
   exact kM rep r O H2 _ e1 (M.trans (T.hh.trans U.hh)) λH3 s3=>h H3 (T.hh.trans (U.hh.trans s3))
  ·cases e
def cN.newBox' (s:cN K B0 H0 N H σ ρ)(i:Nat)(hp:H p=none)(h2:∀a o,a≠p->H a=some o->H2 a=some o)(hb:∀C,Bx K C ob dd):cN K B0 H0 (upd N p ob) (upd H2 p ob) (σ.set i (some (.ref p))) (ρ.set i (some (dd,true))):=by
 have G:N p=none:=s.ext.nh.free hp;have x:Ext N (upd N p ob) H (upd H2 p ob):=by
  refine⟨λa u e=>?_,λa u e=>?_,λa u e=>?_,λa u e=>?_⟩
  ·have z:a≠p:=λq=>by subst q;rw[hp]at e;cases e
   rw[aK z];exact h2 a u z e
  ·rw[aK (λq=>by subst q;rw[G]at e;cases e)];exact e
  ·by_cases q:a=p
   ·subst q;rw[aM]at e ⊢;exact e
   ·rw[aK q]at e ⊢;exact h2 a u q (s.ext.nh a u e)
  ·by_cases q:a=p
   ·subst q;exact .inr hp
   ·rw[aK q]at e;exact .inl e
 have s1:=s.grow x;have M:¬own σ ρ p:=λz=>by obtain⟨T,⟨q,_⟩,_⟩:=s.owned z;rw[G]at q;cases q
 have c:aQ (cA N (own σ ρ)) (cA (upd N p ob) (λb=>own σ ρ b∨b=p)):=dB λb u e q=>⟨x.bn _ _ e,λz=>z.elim q λz=>by subst z;rw[G]at e;cases e⟩;refine s1.bindOwn aM (s.ext.hh.free hp) (λj e q z=>M ⟨j,e,q,z⟩) (λj e _ q=>?_) (λj e _ q=>?_) (hb _)
 ·obtain⟨w,h1,h2⟩:=s.sh j e q;exact⟨w,h1,h2.mono c⟩
 ·obtain⟨O,o',h1,h2,_,h4⟩:=s.ow j e q;exact⟨O,o',h1,x.bn _ _ h2,h4.mono c⟩
def mf:∀ {aI:List (dh×V)},k∉aI.map (·.1)->io aI k v=aI++[(k,v)]:=by
 intro aI h;unfold io;rw[if_neg];intro z;obtain⟨x,hx,e⟩:=List.any_eq_true.mp z;exact h (mem_map.mpr ⟨x,hx,of_decide_eq_true e⟩)
theorem jI:∀(G aI:List (dh×V)),((aI++G).map (·.1)).Nodup->g6 aI G=aI++G
 |[],aI,_=>by rw[append_nil];rfl
 |p::r,aI,h=>by
  show g6 (io aI p.1 p.2) r=_;have hn:p.1∉aI.map (·.1):=by
   rw[List.map_append,List.nodup_append]at h;exact λz=>h.2.2 _ z _ mX rfl
  rw[mf hn,jI r (aI++[(p.1,p.2)]) (by rw[append_assoc];exact h),append_assoc];rfl
theorem mK:∀(G:List (Str×FE))(zs:LS),List.zipWith (λ(q:Str×FE) z=>((Sum.inr q.1:dh),V.str z)) G zs=(G.map λq=>(Sum.inr q.1:dh)).zip (zs.map V.str)
 |[],_=>rfl
 |_::_,[]=>rfl
 |q::r,z::zs=>by rw[List.zipWith_cons_cons,mK r zs];rfl
theorem mL (C:Hp):∀zs:LS,IsL K C (zs.map V.str) (zs.map D.str)
 |[]=>.nil
 |z::zs=>.cons (.str z) (mL C zs)
def sD (q:kE K (kK i prs) E σ H):qi (we (prs.map λq=>(tD K (fC (.str q.1)),tD K q.2))) (gu i) E σ H:=by
 obtain⟨B0,H0,ρ,r,⟨N,s⟩,e,p⟩:=q;obtain⟨zs,M,e⟩:=oX e;split at e
 ·rename_i hc;cases e
  intro a ob ha;have O:aQ N (upd H a (.dK [] ob)):=λb o G=>by
   have G:=s.ext.nh b o G;rw[aK (λq=>by subst q;rw[ha]at G;cases G)];exact G
  refine kM s.rep prs zs _ _ M O λH2 s2=>⟨s2 _ _ aM,List.zipWith (λq z=>(Sum.inr q.1,V.str z)) prs zs,?_,?_,λT=>?_⟩
  ·rw[List.map_zipWith];rfl
  ·rw[List.length_zipWith];omega
  ·have hl:=kL M;have U:=mK prs zs;have e2:((prs.map λq=>(Sum.inr q.1:dh)).zip (zs.map V.str)).map (·.1)=prs.map λq=>(Sum.inr q.1:dh):=by
    rw[List.map_fst_zip];rw[vI,vI];omega
   have hn:(prs.map λq=>(Sum.inr q.1:dh)).Nodup:=List.pairwise_map.mpr ((List.pairwise_map.mp hc.1).imp λh z=>h (Sum.inr.inj z));rw[U,jI _ [] (by rw[nil_append,e2];exact hn),nil_append];refine p _ _ ⟨_,s.newBox' i ha (λb o nb G=>s2 b o (by rw[aK nb];exact G)) λC=>.dk (by rw[vI,vI];omega) (mL C zs)⟩
 ·cases e
end
section
variable {X:Cx}{pos:Pos}
def B3 (X:Cx)(pos:Pos)(M:List (Option Expr))(G:QD)(O:List (Str×FE)):Prop:=zU X pos M G (O.map λq=>(tD X.K (fC (.str q.1)),tD X.K q.2))
def pI:B3 X pos [] [] []:=uo
def cE (hk:JE X (.Constant (.str z) j cp) (fC (.str z)))(G:JE X v f)(hr:B3 X pos ks vs prs):B3 X pos (some (.Constant (.str z) j cp)::ks) (v::vs) ((z,f)::prs):=rF hk G hr
def pJ (O:X.N.Nodup)(h:B3 X dp keys values prs)(hi:X.N[i]? = some x:=by rfl)(G:keys.all (·.isSome)=true:=by rfl)(hl:keys.length=values.length:=by rfl)(h0:keys≠[]:=by exact cons_ne_nil _ _)(M:keys.length<=15:=by decide)
  (hx:vG X.env.scope x:=by first|exact Or.inl rfl|exact Or.inr rfl) (hs:swapsWith (.Dict keys values dp) (some (.Name x p)) pos.line X.env=pure false:=by rfl)
  (T:X.fn x=true∨X.env.scope.names.lookup x=some .local:=by first|exact .inl rfl|exact .inr rfl):JS X (.Assign [.Name x p] (.Dict keys values dp) pos) (kK i prs):=PS.to (qZ O hi hx (up h G hl h0 M) hs T) λ_ _ _ q=>sD q
end
end DL
namespace L2
open PySem PySem.Spec PyProof.Rows
def KV.get {aI:List (dh×V)}{vs:List (dh×Value)}(r:KV aI vs){i:Nat}{k:dh}{x:V}(h:aI[i]? = some (k,x)):∃u,vs[i]? = some (k,u)/\aT x u:=by
 unfold KV at r;induction r generalizing i with
 |nil=>simp at h
 |@cons p q ps T hq t G=>
  cases i with
  |zero=>
   cases (show p=(k,x)from vK h)
   obtain⟨M,O⟩:=q;exact⟨O,by rw[show k=M from hq.1];rfl,hq.2⟩
  |succ i=>exact G h
end L2
namespace DL
open PySem PySem.Spec PyProof.Rows L2
@[simp] abbrev be (i:Nat)(j:Int):FE:=f2 da (ak i) (fC (.int j))
def ci (F:Fn X.prog X.w X.K X.mg X.base k x f)(hr:dH j X.A)(ha:JA X (e::es) fa)(hj:k<=j:=by decide)(O:Gl X x:=by rfl)(G:(x == ("__debug__" : Str))=false:=by decide)(he:starEach (e::es) X.env=(false,eval e X.env)::starEach es X.env:=by rfl)(M:(backTo pos (starEach es X.env)).any (·.1)=false:=by rfl):JE X (.Call (.Name x p) (e::es) [] pos) (fA f fa):=pw F (hr.mono hj) ha O G he M
def A6 (h1:∀y∈scope.names,y.2≠.cell:=by decide +kernel)(h2:scope.kind=.function:=by rfl)(h3:∀y∈scope.names,y.2=.local->scope.names.lookup y.1=some .local:=by decide +kernel)(G:(scope.names.all λy=>!(y.2 == NameKind.free) || (X.env.cells.lookup y.1).isSome)=true:=by rfl):CompSc X scope (cW scope.names X.env.cells []):=xF h1 h2 h3 G
def Dr (h1:N'[j]? = some x)(h2:X.N[i]? = some x)(t:ij X N' scope (cW scope.names X.env.cells []) (j+1) r)(h3:X.env.kindOf x=some .cell∨X.env.kindOf x=some .free:=by exact Or.inl rfl)(h4:(relabel scope X.env).names.lookup x=some .cell∨(relabel scope X.env).names.lookup x=some .free:=by exact Or.inl rfl)(G:(x,NameKind.free)∈scope.names:=by decide +kernel)(hc:(X.env.cells.lookup x).isSome=true:=by rfl):ij X N' scope (cW scope.names X.env.cells []) j (i::r):=.cons h1 h2 h3 h4 (uy G hc) t
end DL
namespace DL
open PySem PySem.Spec PySem.W PyProof.Rows L2
def Co:D->Option (List At)
 |.tup [.int n,.tup es]=>(oj es).map (.i n :: ·)
 |_=>none
def wv:LD->Option (List (List At))
 |[]=>some []
 |d::ds=>(Co d).bind λa=>(wv ds).map (a :: ·)
@[simp] abbrev Cp:FE->(Env->D->Option D)->FE:=sA wv λ_=>true
end DL
namespace DL
open PySem PySem.Spec PyProof.Rows L2
def A7:Nat->(LU->Prop)->Prop
 |0,P=>P []
 |n+1,P=>∀a,A7 n λl=>P (a::l)
theorem yf:∀n P,A7 n P->∀us:LU,us.length=n->P us
 |0,_,h,[],_=>h
 |n+1,_,h,a::us,e=>yf n _ (h a) us (Nat.succ.inj e)
section
variable {P:Program}{w:World}{K:Frag}{mg:SV}{base:Heap}
def KC (K:Frag)(mg:SV)(x:Str)(c:D):Prop:=∃u v,mg x=some u/\aT v u/\∀B,Is K B v c
def KD (w:World)(K:Frag)(mg:SV)(x:Str)(c:List (Str×D)):Prop:=∃d,mg x=some (.ref d)/\gY K w.params d c
def kc_of {x:Str}{c:D}{h:Heap}(X:K.In h)(G:h.Ns mainGlobals mg)(k:∃u v,nsIn K mainGlobals x=some (some u)/\aT v u/\∀B,Is K B v c):KC K mg x c:=let ⟨u,v,e,r⟩:=k;⟨u,v,mg_of X G e,r⟩
def kd_of {x:Str}{c:List (Str×D)}{h:Heap}(X:K.In h)(G:h.Ns mainGlobals mg)(k:∃d,nsIn K mainGlobals x=some (some (.ref d))/\gY K w.params d c):KD w K mg x c:=let ⟨d,e,r⟩:=k;⟨d,mg_of X G e,r⟩
def eC.fqL {x:Str}{st:Stmt}{k:Nat}{O:LD->OB}(F:eC K x st)(B:∃h,K.In h/\h.Ns mainGlobals mg)(g:FS)(N:LS)(n:Nat)
  (hb:∀ {f:Addr}{cL:Value}{A:Around}{outer:List PySem.Env}{s:Shared}{H:Hp}{E:XK},N.Nodup->dH k (A.deeper (envOfC x (aG st) s.heap.objs.size f cL))->(A.deeper (envOfC x (aG st) s.heap.objs.size f cL)).units+40<cLine->(∀c P,PySem.W.tabIn K x=some (c,P)->cL=.ref c)->lA (jh nM P w K mg base N x (aG st) f cL A outer s H E).nox (bX st) g)
  (S:FnScope N (N.take n) (aG st):=by refine⟨rfl,rfl,rfl,?_,rfl,?_,?_⟩<;>decide +kernel)
  (M:∀(kV doc pm:Value)(an:Option Addr)(cL ct:Value)(us:LU),us.length=(N.take n).length->bindArgs (fnOf x x (dv st) (bX st) (aG st) .none kV doc pm an cL ct) ⟨us,[]⟩=pure ((N.take n).zip us):=by
   exact λ_ _ _ _ _ _=>yf _ _ (by(repeat intro);rfl))
  (e:aY g (N.take n).length (N.length - (N.take n).length)=O:=by rfl):
  Fn P w K mg base (k+1) x O:=let ⟨_,X,G⟩:=B;e ▸ F.fnL X G S M λ_ _ _ _ _ _ _ hc hr=>hb S.nd hr (Aj hr) hc
def eC.fq {x:Str}{st:Stmt}{k:Nat}{M:LD->OB}(F:eC K x st)(B:∃h,K.In h/\h.Ns mainGlobals mg)(g:FS)(N:LS)(n:Nat)
  (hb:∀ {f:Addr}{cL:Value}{A:Around}{outer:List PySem.Env}{s:Shared}{H:Hp}{E:XK},N.Nodup->dH k (A.deeper (envOfC x (aG st) s.heap.objs.size f cL))->(A.deeper (envOfC x (aG st) s.heap.objs.size f cL)).units+40<cLine->lA (jh nM P w K mg base N x (aG st) f cL A outer s H E).nox (bX st) g)
  (S:FnScope N (N.take n) (aG st):=by refine⟨rfl,rfl,rfl,?_,rfl,?_,?_⟩<;>decide +kernel)
  (G:∀(kV doc pm:Value)(an:Option Addr)(cL ct:Value)(us:LU),us.length=(N.take n).length->bindArgs (fnOf x x (dv st) (bX st) (aG st) .none kV doc pm an cL ct) ⟨us,[]⟩=pure ((N.take n).zip us):=by
   exact λ_ _ _ _ _ _=>yf _ _ (by(repeat intro);rfl))
  (e:aY g (N.take n).length (N.length - (N.take n).length)=M:=by rfl):
  Fn P w K mg base (k+1) x M:=F.fqL B g N n (λn r u _=>hb n r u) S G e
end
section
variable {X:Cx}{x:Str}{pos:Pos}
def yg (i:Nat)(G:X.N.Nodup)(hi:X.N[i]? = some x:=by rfl)(hx:vG X.env.scope x:=by first|exact Or.inl rfl|exact Or.inr rfl)(M:X.fn x=true∨X.env.scope.names.lookup x=some .local:=by first|exact .inl rfl|exact .inr rfl):PG X (.Name x pos) (gu i):=oQ G hi hx M
def zb {fp}(i:Nat)(G:N'.Nodup:=by decide +kernel)(hi:(eG X N' scope cl C s H fp).N[i]? = some x:=by rfl)(hx:vG (eG X N' scope cl C s H fp).env.scope x:=by exact Or.inl rfl)(M:(eG X N' scope cl C s H fp).fn x=true∨(eG X N' scope cl C s H fp).env.scope.names.lookup x=some .local:=by first|exact .inl rfl|exact .inr rfl):PG (eG X N' scope cl C s H fp) (.Name x pos) (gu i):=oQ G hi hx M
def fU (N':LS)(hi:JI X tg du fi)(hc:∀ {C s H fp},JC (eG X N' scope (cW scope.names X.env.cells []) C s H fp) oN fc)(he:∀ {C s H fp},JE (eG X N' scope (cW scope.names X.env.cells []) C s H fp) lQ fe)
  (M:wj X.K nT js g:=by first|exact mn (by decide)|exact wr (by decide)) (O:∀ {C s H fp},PG (eG X N' scope (cW scope.names X.env.cells []) C s H fp) tg g:=by intros;first|exact zb 0|exact qX rfl (dW (zb 0) (dW (zb 1) lu)))
  (T:ij X N' scope (cW scope.names X.env.cells []) nT cap:=by repeat first|exact .nil rfl|refine Dr rfl rfl ?_)
  (S:CompSc X scope (cW scope.names X.env.cells []):=by exact A6) (G:X.calm=true:=by rfl)
  (hs:∀x,foldedSetIterable du X.env x=pure x:=by intro _;rfl):
  JE X (.ListComp lQ [⟨tg,du,oN,0⟩] scope pos) (bC fi nT cap js fc fe):=u0 G S T hi (λ_ _ _ _=>O) M (λ_ _ _ _=>hc) (λ_ _ _ _=>he) hs
def A8 (N':LS)(U:X.N.Nodup)(hi:JI X tg du fi)(hc:∀ {C s H fp},JC (eG X N' scope (cW scope.names X.env.cells []) C s H fp) oN fc)(he:∀ {C s H fp},JE (eG X N' scope (cW scope.names X.env.cells []) C s H fp) lQ fe)
  (M:wj X.K nT js g:=by first|exact mn (by decide)|exact wr (by decide)) (hg:∀ {C s H fp},PG (eG X N' scope (cW scope.names X.env.cells []) C s H fp) tg g:=by intros;first|exact zb 0|exact qX rfl (dW (zb 0) (dW (zb 1) lu)))
  (cp:ij X N' scope (cW scope.names X.env.cells []) nT cap:=by repeat first|exact .nil rfl|refine Dr rfl rfl ?_)
  (O:X.N[i]? = some y:=by rfl) (hy:X.env.kindOf y=some .local:=by rfl)
  (T:swapsWith (.ListComp lQ [⟨tg,du,oN,0⟩] scope pos) (some (.Name y py)) spos.line X.env=pure true:=by rfl)
  (S:CompSc X scope (cW scope.names X.env.cells []):=by exact A6) (G:X.calm=true:=by rfl)
  (hs:∀x,foldedSetIterable du X.env x=pure x:=by intro _;rfl):
  JS X (.Assign [.Name y py] (.ListComp lQ [⟨tg,du,oN,0⟩] scope pos) spos) (ba i (bC fi nT cap js fc fe)):=u3 G U O hy T S cp hi (λ_ _ _ _=>hg) M (λ_ _ _ _=>hc) (λ_ _ _ _=>he) hs
def wx (hi:JI X tg du fi)(G:PG X tg t)(M:wh X.K js t)(hb:lA X body g)(hp:PassesOwn (model X.prog X.w) X.A X.env X.xe:=by exact PassesOwn.never)(hc:X.calm=true:=by rfl)
  (hs:∀x,foldedSetIterable du X.env x=pure x:=by intro _;rfl):JS X (.For tg du body [] pos) (nP fi js g):=xL hp hc hi G M hb hs
def wy (hi:PI X tg du (By X.K fi))(G:PG X tg t)(M:wh X.K js t)(hb:lA X body g)(hp:PassesOwn (model X.prog X.w) X.A X.env X.xe:=by exact PassesOwn.never)(hc:X.calm=true:=by rfl)
  (hs:∀x,foldedSetIterable du X.env x=pure x:=by intro _;rfl):JS X (.For tg du body [] pos) (iR fi js g):=uA hp hc hi G M hb hs
end
@[simp] abbrev fV (i:Nat)(g:FA):FA:=aa (ak i) g
@[simp] abbrev fI (n:Int):FE:=fC (.int n)
@[simp] abbrev fS (s:PySem.Str):FE:=fC (.str s)
section
variable {X:Cx}{es:QD}{g:FA}{pos:Pos}
def aF {x:Str}{p:Pos}(i:Nat)(hr:JA X es g)(G:PE X (.Name x p) (lW i):=by exact pv)
  (hs:starEach (.Name x p::es) X.env=(false,eval (.Name x p) X.env)::starEach es X.env:=by rfl):JA X (.Name x p::es) (fV i g):=af (ai i G) hr hs
def br {i:Int}{j:Nat}(hr:JA X es g):JA X (.Constant (.int i) j pos::es) (aa (fC (.int i)) g):=af al hr
def bH (F:Fn X.prog X.w X.K X.mg X.base k x f)(hr:dH j X.A)(ha:JA X (e::es) g:=by repeat first|exact ah|refine aF _ ?_|refine af au ?_)(hj:k<=j:=by decide)(O:Gl X x:=by rfl)(G:(x == ("__debug__" : Str))=false:=by decide)(he:starEach (e::es) X.env=(false,eval e X.env)::starEach es X.env:=by rfl)(M:(backTo pos (starEach es X.env)).any (·.1)=false:=by rfl):JE X (.Call (.Name x p) (e::es) [] pos) (fA f g):=pw F (hr.mono hj) ha O G he M
def bA (he:JE X e f):lA X [.Return (some e) pos] (aD f):=cZ (rR he)
def aU {c:Expr}{G:FT}(hc:JT X c G)(he:JE X e f):JS X (.If c [.Return (some e) p] [] pos) (bU G (aD f) aA):=iS hc (cZ (rR he)) ir
def aJ (i:Nat)(G:PE X (.Name x p) (lW i):=by exact pv):JE X (.Subscript (.Name x p) (.Constant (.int n) j q) pos) (be i n):=cJ (ai i G) al
end
@[simp] noncomputable def Ep (j:Nat):D×Bool->Option LD
 | (.tup ds,true)=>match ds[j]? with
  |some (.lst es)=>some es
  |_=>none
 |_=>none
@[simp] def F3 (i:Nat)(f:FE)(G:FT)(M:FS)(O:FT)(j:Nat)(fe:FE)(h2:FS):FS:=λρ=>(f (dI ρ)).bind λx=>match G (ρ.set i (some (x.1,false))) with
 |some true=>match M (ρ.set i (some (x.1,false))) with
  |some (.rt d b)=>some (.rt d b)
  |_=>none
 |some false=>match O (ρ.set i (some (x.1,false))) with
  |some false=>some (.nx (ρ.set i (some (x.1,false))))
  |some true=>(Ep j x).bind λes=>(fe (ρ.set i (some (x.1,false)))).bind λy=>if i<ρ.length/\es.length<sizeLine then h2 (ρ.set i none)else none
  |none=>none
 |none=>none
def cN.two {K:Frag}{v w:V}{dx O:D}(s:cN K B0 H0 N H σ ρ)(i k:Nat)(T:Ext (cA N (own σ ρ)) N1 H H1)(i1:Is K N1 v dx)(G:Ext (cA N (own (σ.set i (some v)) (ρ.set i none))) N2 H1 H2)(i2:Is K N2 w O):∃N',cN K B0 H0 N' H2 ((σ.set i (some v)).set k (some w)) ((ρ.set i (some (dx,false))).set k (some (O,false))):=by
 obtain⟨s1,c⟩:=s.growH T;have s2:=s1.bind (i:=i) (i1.mono c);generalize hM:join N N1=M at s1 s2 c;have U:aQ M H1:=s1.ext.nh;have nm:aQ N M:=by rw[←hM];exact cC
 have x3:Ext M (join M N2) H1 H2:=by
  refine⟨G.hh,cC,λa o e=>?_,λa o e=>?_⟩
  ·unfold join at e;split at e
   ·rename_i u q;cases e
    exact G.hh _ _ (U _ _ q)
   ·exact G.nh _ _ e
  ·unfold join at e;split at e
   ·rename_i u q;cases e
    exact .inl q
   ·rename_i q;rcases G.new a o e with z|z
    ·exact .inl (nm _ _ (fO z).2)
    ·exact .inr z
 have s3:=s2.grow x3;refine⟨_,s3.bind (i:=k) (i2.mono λb o e=>?_)⟩;have hj:join M N2 b=some o:=by
  unfold join;split
  ·rename_i u q;have h1:=G.hh _ _ (U _ _ q);rw[G.nh _ _ e]at h1;exact h1.symm
  ·exact e
 rw[ce λz=>?_]
 ·exact hj
 ·rcases jq z with⟨_,d',p⟩|⟨j,ne,d',q1,q2⟩
  ·cases p
  ·have oA:own (σ.set i (some v)) (ρ.set i none) b:=⟨j,d',by rw[vC (Ne.symm ne)];exact q1,by rw[vC (Ne.symm ne)];exact q2⟩;rcases G.new b o e with z|z
   ·exact(fO z).1 oA
   ·obtain⟨o',⟨n1,_⟩,_⟩:=s.owned ⟨j,d',q1,q2⟩;rw[T.hh _ _ (s.ext.nh _ _ n1)]at z;cases z
section
variable {X:Cx}{o e e':Expr}{pos:Pos}
@[simp] def sE (G fe M:FE):FE:=λρ=>(G ρ).bind λx=>(fe ρ).bind λy=>(M ρ).bind λz=>match x.1 with
 |.dk ks vs=>(mJ y.1).map λk=>((fT ks vs k).getD z.1,false)
 |_=>none
def mM {dQ cz:Pos}{fo fe ff:FE}(hu:X.A.units+1<cLine)(ho:JE X o fo)(he:JE X e fe)(hf:JE X e' ff)(m:M2 X o "get" dQ e e' cz):JE X (.Call (.Attribute o "get" dQ) [e,e'] [] cz) (sE fo fe ff):=by
 refine PE.to (rG hu ho he hf m) λσ H Q q=>?_;obtain⟨B,ρ,d,bb,sB,r,G,q⟩:=q;obtain⟨x,ex,G⟩:=oX G;obtain⟨y,ey,G⟩:=oX G;obtain⟨z,ez,G⟩:=oX G;refine⟨B,ρ,x.1,x.2,sB,r,ex,λv H1 N1 O i1 _=>?_⟩;obtain⟨xd,xb⟩:=x;cases i1 with
 |@dk a ks vs ds ob h hl hs=>
  dsimp only at G;obtain⟨k,hk,G⟩:=oY G;cases G
  refine⟨a,rfl,.inl ⟨_,_,.inl (O.nh _ _ h)⟩,N1,ρ,y.1,y.2,O.nh,r.mono O.bn,ey,λv2 H2 N2 T i2 _=>⟨N2,ρ,z.1,z.2,T.nh,(r.mono O.bn).mono T.bn,ez,λv3 H3 N3 M i3 _=>?_⟩⟩;have hv:=A4 i2 hk;subst hv;refine⟨g0 (ks.zip vs) k,.inl ⟨_,k,_,.inl (M.nh _ _ (M.bn _ _ (T.bn _ _ h))),rfl,rfl⟩,?_⟩;have U:=(hs.mono T.bn).mono M.bn;rcases sC k hl U with⟨v,d',e1,e2,i4⟩|⟨e1,e2⟩
  ·rw[e1];rw[e2]at q;exact(q.into ((O.trans T).trans M)).one M.nh i4
  ·rw[e1];rw[e2]at q;exact(q.into ((O.trans T).trans M)).one M.nh i3
 |_=>cases G
end
@[simp] def mN (i:Nat)(G M:FE):FS:=λρ=>match ρ[i]? with
 |some (some (.lst ds,true))=>(M (dI ρ)).bind λv=>(G (dI ρ)).bind λk=>match k.1 with
  |.int j=>(oZ ds.length j).bind λn=>some (.nx (ρ.set i (some (.lst (ds.set n v.1),true))))
  |_=>none
 |_=>none
@[simp] def mO (i:Nat)(G:FE)(F:LD->OB)(M O:FE):FS:=λρ=>match ρ[i]? with
 |some (some (.lst ds,true))=>(M (dI ρ)).bind λT=>match T.1 with
  |.int j=>(iQ ds j).bind λd0=>(O (dI ρ)).bind λy=>(F [d0,y.1]).bind λv=>(G (dI ρ)).bind λk=>match k.1 with
   |.int U=>(oZ ds.length U).bind λn=>some (.nx (ρ.set i (some (.lst (ds.set n v.1),true))))
   |_=>none
  |_=>none
 |_=>none
section
variable {X:Cx}{e k:Expr}{pos:Pos}
def uP (hv:JE X e fv)(hk:JE X k fk)(hN:X.N[i]? = some y:=by rfl)(M:zj X.env.scope y:=by first|exact Or.inl rfl|exact Or.inr (Or.inl rfl)|exact Or.inr (Or.inr rfl))(hd:(y == ("__debug__" : Str))=false:=by decide)
  (T:(y == ("__classdict__" : Str))=false:=by decide)
  (ha:∀v,assign (.Subscript (.Name y py) k pt) X.env v=(do
   let O ←holding [v] (eval (.Name y py) X.env)
   let iv ←holding [v,O] (eval k X.env)
   standAt pt
   holding [v,O,iv] (setItem O iv v)
   release [v,O,iv] []):=by intro _;rfl)
  (hs:swapsWithSole [.Subscript (.Name y py) k pt] e pos.line X.env=pure false:=by rfl) (hw:swappedStores [.Subscript (.Name y py) k pt] e X.env=pure none:=by rfl)
  (h1:(assignEach [.Subscript (.Name y py) k pt] X.env).map (·.2)=[assign (.Subscript (.Name y py) k pt) X.env]:=by rfl):JS X (.Assign [.Subscript (.Name y py) k pt] e pos) (mN i fk fv):=by
 refine PS.to (nB hv (qY (ls hN M hd T) hk lZ ha) hs hw h1) λE σ H q=>?_;obtain⟨B0,H0,ρ,r,⟨N,s⟩,G,p⟩:=q;unfold mN at G;split at G
 ·rename_i ds U;obtain⟨v,ev,G⟩:=oX G;obtain⟨kk,ek,G⟩:=oX G;obtain⟨kd,kb⟩:=kk;cases kd with
  |int j=>
   dsimp only at G;obtain⟨n,en,G⟩:=oX G;cases G
   refine⟨cA N (own σ ρ),dI ρ,v.1,v.2,bi.trans s.ext.nh,s.repH,ev,λv1 H1 N1 x1 i1 _=>?_⟩;obtain⟨s1,c1⟩:=s.growH x1;obtain⟨l,vs,BG,z,h1,h2,h3,h4⟩:=s1.owL i _ U;cases z
   refine⟨_,h1,cA (join N N1) (own σ ρ),dI ρ,_,_,bi.trans s1.ext.nh,s1.repH,ek,λkv H2 N2 x2 i2 _=>?_⟩;cases i2
   obtain⟨s2,c2⟩:=s1.growH x2;obtain⟨l',Fg,BG,z,k1,k2,k3,k4⟩:=s2.owL i _ U;cases z
   rw[h1]at k1;cases k1;exact⟨l,Fg,j,n,rfl,rfl,s2.ext.nh _ _ k2,by rw[k4.length];exact en,p σ _ ⟨_,s2.write U h1 (IsL.set ((i1.mono c1).mono (x2.bn.trans c2)) n k4)⟩⟩
  |_=>cases G
 ·cases G
def uQ {F:LD->OB}{O M:Expr}{p1 U p3 cz:Pos}(f:Fn X.prog X.w X.K X.mg X.base kk x F)(hr:dH jj X.A)(Fh:kk<=jj)(hj:JE X O fj)(hy:JE X M fy)(hk:JE X k fk)(hN:X.N[i]? = some y:=by rfl)(T:zj X.env.scope y:=by first|exact Or.inl rfl|exact Or.inr (Or.inl rfl)|exact Or.inr (Or.inr rfl))(hd:(y == ("__debug__" : Str))=false:=by decide)
  (wD:(y == ("__classdict__" : Str))=false:=by decide) (Fi:gO O:=by intro _ _;rfl)
  (DU:starEach [.Subscript (.Name y p1) O U,M] X.env=(false,eval (.Subscript (.Name y p1) O U) X.env)::starEach [M] X.env:=by rfl) (Fj:starEach [M] X.env=(false,eval M X.env)::starEach [] X.env:=by rfl)
  (hg:Gl X x:=by rfl) (CU:(x == ("__debug__" : Str))=false:=by decide) (Fk:(backTo cz (starEach [M] X.env)).any (·.1)=false:=by rfl)
  (ha:∀v,assign (.Subscript (.Name y py) k pt) X.env v=(do
   let ov ←holding [v] (eval (.Name y py) X.env)
   let iv ←holding [v,ov] (eval k X.env)
   standAt pt
   holding [v,ov,iv] (setItem ov iv v)
   release [v,ov,iv] []):=by intro _;rfl)
  (hs:swapsWithSole [.Subscript (.Name y py) k pt] (.Call (.Name x p3) [.Subscript (.Name y p1) O U,M] [] cz) pos.line X.env=pure false:=by rfl) (hw:swappedStores [.Subscript (.Name y py) k pt] (.Call (.Name x p3) [.Subscript (.Name y p1) O U,M] [] cz) X.env=pure none:=by rfl)
  (h1:(assignEach [.Subscript (.Name y py) k pt] X.env).map (·.2)=[assign (.Subscript (.Name y py) k pt) X.env]:=by rfl):JS X (.Assign [.Subscript (.Name y py) k pt] (.Call (.Name x p3) [.Subscript (.Name y p1) O U,M] [] cz) pos) (mO i fk F fj fy):=by
 obtain⟨ad,fd,ps,F1,hm,Fl,hb⟩:=f.ex;refine PS.to (nB (oV F1 (hr.mono Fh) hg hm Fl hb .nil wb (gi (pd pe (ls hN T hd wD) hj Fi) (gi hy jy Fj) DU) CU DU Fk) (qY (ls hN T hd wD) hk lZ ha) hs hw h1) λE σ H q=>?_;obtain⟨B0,H0,ρ,r,⟨N,s⟩,G,p⟩:=q;unfold mO at G;split at G
 ·rename_i ds ei;obtain⟨⟨jd,jb⟩,O,G⟩:=oX G;cases jd with
  |int j=>
   dsimp only at G;obtain⟨d0,e0,G⟩:=oX G;obtain⟨y,M,G⟩:=oX G;obtain⟨v,ev,G⟩:=oX G;obtain⟨⟨kd,kb⟩,ek,G⟩:=oX G;cases kd with
   |int kk=>
    dsimp only at G;obtain⟨n,en,G⟩:=oX G;cases G
    obtain⟨l,vs,BG,z,h1,h2,h3,h4⟩:=s.owL i _ ei;cases z
    refine⟨_,h1,cA N (own σ ρ),dI ρ,_,_,bi.trans s.ext.nh,s.repH,O,λjv H1 N1 x1 i1 _=>?_⟩;cases i1
    obtain⟨s1,c1⟩:=s.growH x1;obtain⟨l',Fm,BG,z,k1,k2,k3,k4⟩:=s1.owL i _ ei;cases z
    rw[h1]at k1;cases k1;obtain⟨w,hw,iw⟩:=lE k4 e0;refine⟨l,Fm,j,w,rfl,rfl,fz.of (s1.ext.nh _ _ k2),hw,cA (join N N1) (own σ ρ),dI ρ,y.1,y.2,bi.trans s1.ext.nh,s1.repH,M,λyv H2 N2 x2 i2 _=>?_⟩;refine⟨N2,[d0,y.1],v.1,v.2,⟨x2.nh,s1.tbC.mono x2.bn⟩,.cons (iw.mono x2.bn) (.cons i2 .nil),ev,λv1 H3 N3 x3 i3 _=>?_⟩;obtain⟨s3,c3⟩:=s1.growH (x2.trans x3);refine⟨_,h1,cA (join (join N N1) N3) (own σ ρ),dI ρ,_,_,bi.trans s3.ext.nh,s3.repH,ek,λkv H4 N4 x4 i4 _=>?_⟩;cases i4
    obtain⟨s4,c4⟩:=s3.growH x4;obtain⟨l',Fo,BG,z,o1,o2,o3,o4⟩:=s4.owL i _ ei;cases z
    rw[h1]at o1;cases o1;exact⟨l,Fo,kk,n,rfl,rfl,s4.ext.nh _ _ o2,by rw[o4.length];exact en,p σ _ ⟨_,s4.write ei h1 (IsL.set ((i3.mono c3).mono (x4.bn.trans c4)) n o4)⟩⟩
   |_=>cases G
  |_=>cases G
 ·cases G
end
def iB:fillsNumberSlot (.type "tuple") "mul" = pure false :=
 PySem.fillsNumberSlot_seq (id:="tuple.__mul__") (r:=some (.builtin "tuple.__rmul__")) PySem.F.slot_tuple_mul.lookup (by decide +kernel) PySem.F.slot_tuple_rmul.lookup (by decide +kernel)
def lJ:seqRepeat? (.type "tuple")=pure (some (.builtin "tuple.__mul__")):=by
 unfold seqRepeat?;rw[PySem.seqSlot_of (T:="tuple") (name:="__mul__") (id:="tuple.__mul__") PySem.F.slot_tuple_mul.lookup (by decide +kernel),PySem.seqSlot_of (T:="tuple") (name:="__rmul__") (id:="tuple.__rmul__") PySem.F.slot_tuple_rmul.lookup (by decide +kernel)];rfl
def jJ (a:Int)(t:Tok)(l:Addr)(items:AV)(n:Nat)(G:Option Addr)(sl:Array (Option Value)):
  Meets (Builtin.«int.__rmul__» ⟨[.int a t,.ref l],[]⟩) (λ_ R s=>s.heap.get? l=some { cls:=.type "tuple",dict:=G,data:=.seq items n,slots:=sl }/\R (.ok (.ret Value.notImplemented)) s) :=
 .of_wp λprog w A R s h=>by obtain⟨hp,g,d,M,os⟩:=s;obtain⟨hl,h⟩:=h;wp_walk;exact⟨_,rfl,h⟩
def kn (l:Addr)(items:AV)(n:Nat)(U:Option Addr)(sl:Array (Option Value))(x:Int)(u:Tok)(G:¬(decide (x < -(2 ^ 63)) || decide (x ≥ 2 ^ 63))=true)(F7:¬(items.isEmpty || x == 1)=true)(F8:¬(decide (x<=0) || items.isEmpty)=true)(M:¬(items.size:Int)*x > (2 ^ 63 - 1) / 8)(F9:¬Builtin.Tuple.tupleTooMany ((items.size:Int)*x)=true)(FC:(List.foldl (λO T=>O++T) #[] (List.replicate x.toNat items)).size<=sizeLine):
  Meets (Builtin.«tuple.__mul__» ⟨[.ref l,.int x u],[]⟩) (λ_ R s=>s.heap.get? l=some { cls:=.type "tuple",dict:=U,data:=.seq items n,slots:=sl }/\R (.ok (.ret (Value.ref s.heap.objs.size))) { s with heap:=s.heap.push { cls:=Value.type "tuple",data:=Data.seq (List.foldl (λO T=>O++T) #[] (List.replicate x.toNat items)) },toks:=s.toks }) :=
 .of_wp λprog w A R s h=>by obtain⟨hp,g,d,tk,os⟩:=s;obtain⟨hl,h⟩:=h;have f1:=AutoSeq1.idx_int;have f2:=AutoSeq1.sub_tuple_tuple;have f3:=AutoSeq1.sub_list_list;have f4:=AutoSeq1.sub_tuple_list;have f5:=AutoSeq1.sub_list_tuple;wp_walk using wpAny_loadPart' hl;refine wpAny_ite_false (decide_eq_false G) ?_;wp_walk using wpAny_loadPart' hl;refine wpAny_ite_false (decide_eq_false M) ?_;wp_walk using wpAny_loadPart' hl;exact⟨_,rfl,h⟩
@[simp] noncomputable def sF:D->D->OB
 |.tup ds,.int k=>if 2<=k/\k<=1000/\0<ds.length/\ds.length*k.toNat<=1000 then some (.tup (List.replicate k.toNat ds).flatten,false)else none
 |_,_=>none
section
variable {X:Cx}
def yh:cF X (binaryOp .Mult) (rD X.K sF):=by
 intro ac s σ H x y v u Q I rx ry q;obtain⟨B,dx,dy,d,bb,sB,ix,iy,ee,q⟩:=q;cases ix<;>try (cases ee;done)
 cases iy<;>try (cases ee;done)
 rename_i l vs ds h hl k;simp only[sF]at ee;split at ee
 ·rename_i hz;cases ee
  obtain⟨h2,h3,h4,h5⟩:=hz;cases rx
  obtain⟨t,rfl⟩:=ry;have O:=hl.length;obtain⟨its,rr,ht,DV⟩:=I.tuple (bf sB h);have DW:=rr.length;obtain⟨⟨cls,dd,data,sl⟩,ho,hc,n,DX⟩:=id ht;simp only at hc DX;subst hc DX;have tP:its.toArray.size=ds.length:=by rw[vH,←DW,O]
  have G:(its.toArray.size:Int)*k=((ds.length*k.toNat:Nat):Int):=by
   rw[tP,Int.natCast_mul,Int.toNat_of_nonneg (by omega)]
  have zh:its.toArray.isEmpty=false:=by
   rw[Bool.eq_false_iff];intro z;rw[Array.isEmpty_iff_size_eq_zero]at z;omega
  have M:List.foldl (λx1 x2=>x1++x2) #[] (List.replicate k.toNat its.toArray)=(List.replicate k.toNat its).flatten.toArray:=by
   have:=kA its k.toNat [];rw[nil_append]at this;exact this
  have Fp:(List.replicate k.toNat its).flatten.length<=sizeLine:=by
   rw[pi,←DW,O,Nat.mul_comm];exact vR h5 (by decide)
  refine PySem.wpAny_binaryOp_repeat_ref (T:="tuple") (U:="int") (by decide) ⟨_,ho,rfl⟩ (λs'=>typeIs_int s' k t) iB F.fills_int_mul F.slot_int_rmul lJ F.slot_int_index.lookup
   (call_meets F.slot_int_rmul (typeIs_int s k t) F.entry_int_rmul (F.args_int_rmul_2 _ _) (jJ k t l its.toArray n dd sl)
    ⟨ho,rfl,⟨_,ho,rfl⟩,call_meets F.slot_tuple_mul ⟨_,ho,rfl⟩ F.entry_tuple_mul (F.args_tuple_mul_2 _ _) (kn l its.toArray n dd sl k t ?_ ?_ ?_ ?_ ?_ ?_) ⟨ho,?_⟩⟩)
  ·rw[Bool.or_eq_true,decide_eq_true_eq,decide_eq_true_eq];omega
  ·rw[zh,Bool.false_or,beq_iff_eq];omega
  ·rw[zh,Bool.or_false,decide_eq_true_eq];omega
  ·rw[G];omega
  ·unfold Builtin.Tuple.tupleTooMany;rw[G,decide_eq_true_eq];have:(1000:Nat)<=sizeLine:=by decide
   omega
  ·rw[M,vH];exact Fp
  ·rw[M];have hp:=I.hok.fresh (vT _);have xt:=Ext.laid (o:=.tup (List.replicate k.toNat vs).flatten) sB hp;refine⟨.ref s.heap.objs.size,_,I.laid (t':=s.toks) (o:=.tup (List.replicate k.toNat vs).flatten) (λb ob q=>vZ _ q) (vT _) ?_,rfl,q _ _ _ xt (.tup (eS.of aM) ((hl.rep k.toNat).mono xt.bn)) (by simp)⟩;exact⟨by rw[pi,O,Nat.mul_comm];exact vR h5 (by decide),_,rr.rep k.toNat,IsTup.new _ _⟩
 ·cases ee
end
def qF {X:Cx}{b:List Stmt}:lA X b oh:=λac s σ H E I q=>by
 obtain⟨B0,H0,ρ,r,_,e,_⟩:=q;cases e
end DL
namespace DL
open PySem L2
def mP (I:Nat->Env->Prop)(ds:LD)(M:Env)(h0:I 0 M)
  (step:∀i d ρ,ds[i]? = some d->I i ρ->∃G ρ',tg d ρ=some G/\(g G=some (.nx ρ')∨g G=some (.ct ρ'))/\I (i+1) ρ'):
  ∃ρ',dn tg g ds M=some (.nx ρ')/\I ds.length ρ':=by
 have O:∀(es:LD)(i:Nat)(ρ:Env),ds.drop i=es->i+es.length=ds.length->I i ρ->∃ρ',dn tg g es ρ=some (.nx ρ')/\I ds.length ρ':=by
  intro es;induction es with
  |nil=>intro i ρ e hl h;refine⟨ρ,by rw[rN],?_⟩;rw[←hl];exact h
  |cons d es U=>
   intro i ρ e hl h;have hd:ds[i]? = some d:=by
    have:(ds.drop i)[0]? = some d:=by rw[e];rfl
    rwa [List.getElem?_drop,Nat.add_zero]at this
   obtain⟨G,ρ',h1,h2,h3⟩:=step i d ρ hd h;have he:ds.drop (i+1)=es:=by rw[←List.drop_drop,e];rfl
   obtain⟨T,k1,k2⟩:=U (i+1) ρ' he (by simp at hl;omega) h3;refine⟨T,?_,k2⟩;rw[kF,h1];rcases h2 with h2|h2<;>simp only[vJ,h2]<;>exact k1
 exact O ds 0 M (by simp) (by simp) h0
def jK (n:Nat)(I:Nat->Env->Prop)(G:Env)(h0:I 0 G)
  (step:∀(i:Nat) ρ,i<n->I i ρ->∃M ρ',tg (.int (i:Int)) ρ=some M/\(g M=some (.nx ρ')∨g M=some (.ct ρ'))/\I (i+1) ρ'):
  ∃ρ',dn tg g (dJ 0 n) G=some (.nx ρ')/\I n ρ':=by
 have hl:(dJ 0 n).length=n:=by simp[dJ]
 obtain⟨ρ',h1,h2⟩:=mP (tg:=tg) (g:=g) I (dJ 0 n) G h0 λi d ρ hd h=>by
  unfold dJ at hd;rw[vB]at hd;obtain⟨k,hk,hd⟩:=oY hd;obtain⟨O,hk⟩:=vV hk;rw[length_range]at O;rw[List.getElem_range]at hk;subst hk;rw[Int.zero_add]at hd;subst hd;exact step i ρ O h
 rw[hl]at h2;exact⟨ρ',h1,h2⟩
def sG {α:Type}{xs:List α}{j:Nat}(h:j<xs.length):iQ xs (j:Int)=some xs[j]:=uh (by simp[h])
def lK {α:Type}{xs:List α}{i:Int}(h0:0<=i)(h:i.toNat<xs.length):iQ xs i=some xs[i.toNat]:=by
 have:=sG h;rwa [Int.toNat_of_nonneg h0]at this
@[simp] def fW (xs:LI):cc (xs.map D.int)=true:=by
 induction xs with
 |nil=>simp
 |cons x xs G=>simp[G]
@[simp] def tO (n:Nat)(xs:LI):(xs.map D.int).all (bJ n)=true:=by
 induction xs with
 |nil=>simp
 |cons x xs G=>simpa using G
@[simp] def uR (xs:LI):(xs.map D.int).all eF=true:=by
 induction xs with
 |nil=>simp
 |cons x xs G=>simpa using G
def kN (n:Nat):dJ 0 n=((List.range n).map λ(k:Nat)=>(k:Int)).map D.int:=by
 unfold dJ;rw[map_map];apply List.map_congr_left;intro k _;simp
mutual
def eX:D->D->Bool
 |.non,.non=>true
 |.bl a,.bl b=>a == b
 |.int a,.int b=>decide (a=b)
 |.str a,.str b=>decide (a=b)
 |.ty a,.ty b=>decide (a=b)
 |.tup xs,.tup ys=>jL xs ys
 |.lst xs,.lst ys=>jL xs ys
 |_,_=>false
def jL:LD->LD->Bool
 |[],[]=>true
 |x::xs,y::ys=>eX x y && jL xs ys
 |_,_=>false
end
mutual
theorem gn:∀ {x y:D},eX x y=true->x=y
 |.non,.non,_=>rfl
 |.bl a,.bl b,h=>by simp[eX]at h;rw[h]
 |.int a,.int b,h=>by simp[eX]at h;rw[h]
 |.str a,.str b,h=>by simp[eX]at h;rw[h]
 |.ty a,.ty b,h=>by simp[eX]at h;rw[h]
 |.tup xs,.tup ys,h=>by rw[eX]at h;rw[jM h]
 |.lst xs,.lst ys,h=>by rw[eX]at h;rw[jM h]
theorem jM:∀ {xs ys:LD},jL xs ys=true->xs=ys
 |[],[],_=>rfl
 |x::xs,y::ys,h=>by
  rw[jL,vD]at h;rw[gn h.1,jM h.2]
end
def B4 (r:OB)(d:D)(b:Bool):Bool:=match r with
 |some (e,c)=>eX e d && c == b
 |none=>false
def iC (h:B4 r d b=true):r=some (d,b):=by
 unfold B4 at h;split at h
 ·rw[vD]at h;rw[gn h.1,eq_of_beq h.2]
 ·cases h
section
variable {f:FE}{c:FT}{g g' h:FS}{ρ ρ':Env}{i:Nat}{d:D}{b:Bool}{r:Option Res}{ds:LD}
def ar (hl:ds.length=n)(e:g (ds.map (λd=>some (d,false))++List.replicate k none)=some (.rt d b)):aY g n k ds=some (d,b):=by
 unfold aY;rw[if_pos hl,e]
def kO (n:b8 d=true):setE ρ i d b=ρ.set i (some (d,false)):=by unfold setE;rw[if_pos n]
def sI (n:cc ds=true):setE ρ i (.lst ds) true=ρ.set i (some (.lst ds,true)):=by
 unfold setE;rw[if_neg (by simp),if_pos ⟨rfl,by simpa using n⟩]
def pK (n:b8 d=false)(m:b=false∨mj d=false):setE ρ i d b=(unown ρ).set i (some (d,false)):=by
 unfold setE;have hz:¬(b=true/\mj d=true):=λz=>by
  rcases m with m|m
  ·rw[m]at z;exact absurd z.1 (by decide)
  ·rw[m]at z;exact absurd z.2 (by decide)
 rw[if_neg (by simp[n]),if_neg hz]
def pL (e:f ρ=some (d,b))(k:h (setE ρ i d b)=r):ay (ba i f) h ρ=r:=by simp[e];exact k
def bu (e:f ρ=some (d,b))(n:b8 d=true)(k:h (ρ.set i (some (d,false)))=r):ay (ba i f) h ρ=r:=pL e (by rw[kO n];exact k)
def jN (e:f ρ=some (.lst ds,true))(n:cc ds=true)(k:h (ρ.set i (some (.lst ds,true)))=r):ay (ba i f) h ρ=r:=pL e (by rw[sI n];exact k)
def yi (e:f ρ=some (d,b))(n:b8 d=false)(m:b=false∨mj d=false)(k:h ((unown ρ).set i (some (d,false)))=r):ay (ba i f) h ρ=r:=pL e (by rw[pK n m];exact k)
def sJ (u:unown ρ=ρ):setE ρ i d false=ρ.set i (some (d,false)):=by
 unfold setE;split
 ·rfl
 ·rw[if_neg (by simp),u]
def oo (e:f ρ=some (d,false))(u:unown ρ=ρ)(k:h (ρ.set i (some (d,false)))=r):ay (ba i f) h ρ=r:=pL e (by rw[sJ u];exact k)
def A9 (e:f ρ=some (d,false))(u:unown ρ=ρ):ba i f ρ=some (.nx (ρ.set i (some (d,false)))):=by
 show(f ρ).map _=_;rw[e,map_some,sJ u]
def dj (e:g ρ=some (.nx ρ'))(k:h ρ'=r):ay g h ρ=r:=by unfold ay;rw[e];exact k
def uT (e:g ρ=some (.rt d b)):ay g h ρ=some (.rt d b):=by unfold ay;rw[e]
def mQ (e:c ρ=some true)(k:g ρ=r):bU c g g' ρ=r:=by unfold bU;rw[e];exact k
def lL (e:c ρ=some false)(k:g' ρ=r):bU c g g' ρ=r:=by unfold bU;rw[e];exact k
def aL (e:c ρ=some true)(k:g ρ=some (.rt d b)):ay (bU c g g') h ρ=some (.rt d b):=uT (mQ e k)
def ax (e:c ρ=some false)(k:h ρ=r):ay (bU c g aA) h ρ=r:=dj (lL e rfl) k
def ao (e:f ρ=some (d,b)):aD f ρ=some (.rt d b):=by simp[e]
def pM (e:ρ[i]? = some (some (d,b)))(hb:wg d=false:=by rfl):j5 i ρ=some (.rt d b):=by simp only[j5,e,hb];simp
def eY (e:f ρ=some (d,b))(n:b8 d=true):ba i f ρ=some (.nx (ρ.set i (some (d,false)))):=by
 show(f ρ).map _=_;rw[e,map_some,kO n]
def oq (e:ρ[i]? = some (some (.lst ds,true)))(G:f ρ=some (d,b))(n:b8 d=true)(l:ds.length<sizeLine):l8 i f ρ=some (.nx (ρ.set i (some (.lst (ds++[d]),true)))):=by
 simp[e,G,n,l]
def jO (e:fi ρ=some ds)(k:dn tg g ds ρ=some (.nx ρ')):iR fi tg g ρ=some (.nx ρ'):=by unfold iR;rw[e];exact k
def pN (e:fi (dI ρ)=some ds)(k:dn tg g ds ρ=some (.nx ρ')):nP fi tg g ρ=some (.nx ρ'):=by unfold nP;rw[e];exact k
def eZ {f:FE}{j:Nat}(e:f ρ=some (.int j,b))(hj:j<=1000):dL f ρ=some (dJ 0 j):=by
 unfold dL;rw[e];simp only[];rw[if_pos (by omega)];simp
def a9 (e:f ρ=some (.bl x,b)):aO f ρ=some x:=by unfold aO;rw[e]
def ae (e:fa ρ=some ds)(k:F ds=x):fA F fa ρ=x:=by unfold fA;rw[e,vJ];exact k
def gZ {f1 G:D->D->OB}{M O T:FE}{x y z:D}{b1 b2 b3 b4 p q:Bool}(U:M ρ=some (x,b1))(eb:O ρ=some (y,b2))(ec:T ρ=some (z,b3))(e1:f1 x y=some (.bl p,b4))(e2:p=true->G y z=some (.bl q,false)):cS f1 G M O T ρ=some (.bl (p && q),false):=by
 unfold cS;rw[U,eb,ec];simp only[vJ,e1];cases p
 ·rfl
 ·exact e2 rfl
def dq {f1 f2:FE}{p q b1:Bool}(G:f1 ρ=some (.bl p,b1))(M:p=true->f2 ρ=some (.bl q,false)):gT f1 f2 ρ=some (.bl (p && q),false):=by
 unfold gT;rw[G];cases p
 ·rfl
 ·exact M rfl
def pO {f1 f2:FE}{p q b1:Bool}(G:f1 ρ=some (.bl p,b1))(M:p=false->f2 ρ=some (.bl q,false)):wk f1 f2 ρ=some (.bl (p || q),false):=by
 unfold wk;rw[G];cases p
 ·exact M rfl
 ·rfl
def am (G:f ρ=some (d,b))(M:fr ρ=some xs):aa f fr ρ=some (d::xs):=by
 unfold aa;rw[G,vJ,M,vJ]
def a7 (G:fa ρ=some (x,b1))(M:fb ρ=some (y,b2))(O:op x y=z):f2 op fa fb ρ=z:=by
 unfold f2;rw[G,vJ,M,vJ];exact O
def lM (G:c1 ρ=some p)(M:p=true->c2 ρ=some q):gR c1 c2 ρ=some (p && q):=by
 unfold gR;rw[G];cases p
 ·rfl
 ·exact M rfl
def aS (G:c1 ρ=some p)(M:p=false->c2 ρ=some q):b7 c1 c2 ρ=some (p || q):=by
 unfold b7;rw[G];cases p
 ·exact M rfl
 ·rfl
def bM (G:c1 ρ=some p):aN c1 ρ=some (!p):=by
 unfold aN;rw[G];rfl
end
def AA (a c:Nat):decide ([a]<[c])=decide (a<c):=by
 congr 1;rw[List.cons_lt_cons_iff];simp
@[simp] def pP (a c:Nat):gD (.str ⟨#[a]⟩) (.str ⟨#[c]⟩)=some (.bl (decide (a<=c)),false):=by
 unfold gD;show some (D.bl (!decide ([c]<[a])),false)=_;rw[AA];congr 3;by_cases h:c<a
 ·rw[decide_eq_true h,decide_eq_false (by omega)];rfl
 ·rw[decide_eq_false h,decide_eq_true (by omega)];rfl
def fG (h:n<=100000):n<sizeLine:=Nat.lt_of_le_of_lt h (by decide)
def cy (h:n<=100000):n<=sizeLine:=le_of_lt (fG h)
def uV:FS :=
  (ay (ba 3 (fA b9 ag))
  (ay (ba 4 (f2 bc (f2 bG (f2 bG (f2 fN (f2 bc (ak 0) (fC (.int 2147483647))) (fC (.int 48271))) (f2 fN (f2 fN (ak 1) (ak 1)) (fC (.int 69621)))) (fC (.int 11))) (fC (.int 2147483647))))
  (ay (iR (dL (ak 2)) (dX 5) (ay (ba 4 (f2 bc (f2 bG (f2 bG (f2 bG (f2 fN (ak 4) (ak 4)) (f2 fN (fC (.int 48271)) (ak 4))) (ak 5)) (ak 1)) (fC (.int 2147483647))))
  (l8 3 (ak 4))))
  (j5 3))))
def kP (c k:Int)(n:Nat)(hk:0<=k/\k<=1000)(hn:n<=1000):∃xs:LI,aY uV 3 3 [.int c,.int k,.int n]=some (.lst (xs.map .int),true)/\xs.length=n/\∀x∈xs,0<=x/\x<2147483647:=by
 have k1 : -18446744073709551616<k:=by omega
 have k2:k<18446744073709551616:=by omega
 have run:∀(G:Int),0<=G->G<2147483647->∃(ρ':DL.Env),dn (dX 5) (ay (ba 4 (f2 bc (f2 bG (f2 bG (f2 bG (f2 fN (ak 4) (ak 4)) (f2 fN (fC (.int 48271)) (ak 4))) (ak 5)) (ak 1)) (fC (.int 2147483647))))
  (l8 3 (ak 4))) (dJ 0 n) [some (.int c,false),some (.int k,false),some (.int n,false),some (.lst [],true),some (.int G,false),none]=some (.nx ρ')/\∃(xs:LI)(m:Int)(v:OB),(ρ'=[some (.int c,false),some (.int k,false),some (.int n,false),some (.lst (xs.map .int),true),some (.int m,false),v]/\xs.length=n/\∀x∈xs,0<=x/\x<2147483647):=by
  intro G h0 h1;obtain⟨ρ',e,xs,m,v,h⟩:=jK (tg:=dX 5) (g:=ay (ba 4 (f2 bc (f2 bG (f2 bG (f2 bG (f2 fN (ak 4) (ak 4)) (f2 fN (fC (.int 48271)) (ak 4))) (ak 5)) (ak 1)) (fC (.int 2147483647)))) (l8 3 (ak 4))) n (λi ρ=>∃(xs:LI)(m:Int)(v:OB),ρ=[some (.int c,false),some (.int k,false),some (.int n,false),some (.lst (xs.map .int),true),some (.int m,false),v]/\xs.length=i/\(0<=m/\m<2147483647)/\∀x∈xs,0<=x/\x<2147483647)
   [some (.int c,false),some (.int k,false),some (.int n,false),some (.lst [],true),some (.int G,false),none] ⟨[],G,none,rfl,rfl,⟨h0,h1⟩,by simp⟩ (by
    rintro i ρ hi ⟨xs,m,v,rfl,hl,⟨U,m1⟩,hx⟩;have O : -18446744073709551616<m:=by omega
    have T:m<18446744073709551616:=by omega
    have e:(m*m+48271*m+i+k) % 2147483647 ≥ 0/\(m*m+48271*m+i+k) % 2147483647<2147483647:=⟨Int.emod_nonneg _ (by decide),Int.emod_lt_of_pos _ (by decide)⟩;refine⟨_,_,rfl,.inl (bu (d:=.int ((m*m+48271*m+i+k) % 2147483647)) (b:=false) (by simp[O,T]) (by simp) (oq (ds:=xs.map .int) (d:=.int ((m*m+48271*m+i+k) % 2147483647)) (b:=false) (by simp) (by simp) (by simp) (fG (by simp;omega)))),xs++[(m*m+48271*m+i+k) % 2147483647],(m*m+48271*m+i+k) % 2147483647,some (.int i,false),by simp,by simp[hl],e,?_⟩;intro x M;rcases mem_append.mp M with h|h
    ·exact hx x h
    ·simp at h;subst h;exact e)
  exact⟨ρ',e,xs,m,v,h.1,h.2.1,h.2.2.2⟩
 obtain⟨ρ',e,xs,m,v,rfl,hl,hx⟩:=run ((c % 2147483647*48271+k*k*69621+11) % 2147483647) (Int.emod_nonneg _ (by decide)) (Int.emod_lt_of_pos _ (by decide));refine⟨xs,ar rfl (jN (ds:=[]) (by simp[sizeLine]) (by simp) (bu (d:=.int ((c % 2147483647*48271+k*k*69621+11) % 2147483647)) (b:=false) (by simp[k1,k2]) (by simp) (dj (jO (eZ (j:=n) (b:=false) (by simp) hn) e) (pM (by simp))))),hl,hx⟩
def sK (m:Nat)(ns:LI):∃cs:LI,aY (ay (bU (aO (f2 cB (fA bp (aa (ak 0) ag)) (fC (.int 0)))) (aD (fA b9 (aa (fC (.int 0)) ag))) aA)
  (aD (gF (ak 0) cP (bj (fC (.int m)))))) 1 0 [.lst (ns.map .int)]=some (.lst (cs.map .int),true)/\cs.length<=m+1:=by
 by_cases h:ns=[]
 ·subst h;refine⟨[0],ar rfl (aL (a9 (b:=false) (by simp)) (ao (by simp[sizeLine]))),by simp⟩
 ·refine⟨ns.take m,ar rfl (ax (a9 (b:=false) (by simp[h])) (ao ?_)),by simp;omega⟩;have hm:¬((m:Int)<0):=by omega
  simp[c8,HT.cu,hm]
def pQ {α:Type}(l:List α)(g:α->D)(p:α->Bool)(h:α->D)(e:fi ρ=some (l.map g))(hl:l.length<=100000)
  (k:∀x∈l,∃G,tg (g x) (jk nT cap ρ)=some G/\c G=some (p x)/\(p x=true->∃b,fe G=some (h x,b))):bC fi nT cap tg c fe ρ=some (.lst ((l.filter p).map h),true):=by
 have T:∀M:List α,(∀x∈M,x∈l)->dM tg c fe (jk nT cap ρ) (M.map g)=some ((M.filter p).map h):=by
  intro M;induction M with
  |nil=>intro _;simp
  |cons x M O=>
   intro hm;obtain⟨G,h1,h2,h3⟩:=k x (hm x mX);have O:=O λy hy=>hm y (mZ _ hy);rw[map_cons,nQ,h1,vJ,h2,vJ];cases hp:p x with
   |false=>simp[hp,O]
   |true=>
    obtain⟨b,h4⟩:=h3 hp;simp[hp,O,h4]
 unfold bC;rw[e,vJ,if_pos (cy (by simpa using hl)),T l λ_ h=>h,map_some]
def iT {α:Type}(l:List α)(g:α->D)(h:α->D)(e:fi ρ=some (l.map g))(hl:l.length<=100000)
  (k:∀x∈l,∃G,tg (g x) (jk nT cap ρ)=some G/\∃b,fe G=some (h x,b)):bC fi nT cap tg cO fe ρ=some (.lst (l.map h),true):=by
 have:=pQ (c:=cO) (fe:=fe) l g (λ_=>true) h e hl λx hx=>by
  obtain⟨G,h1,h2⟩:=k x hx;exact⟨G,h1,rfl,λ_=>h2⟩
 rw[List.filter_eq_self.mpr λ_ _=>rfl]at this;exact this
@[simp] def h6 {α:Type}(f:α->Bool)(l:List α):nX (l.map λx=>.bl (f x))=some (l.map f):=by
 induction l with
 |nil=>rfl
 |cons x l G=>simp[G]
def lw (h0:0<=i)(h:i.toNat<z.cps.size)(hz:z.length<=100000):da (.str z) (.int i)=some (.str ⟨#[z.cps.toList.getD i.toNat 0]⟩,false):=by
 have hh:i.toNat<z.cps.toList.length:=by simpa using h
 simp only[da];rw[if_pos (cy hz),lK h0 hh];simp[List.getD,h]
def yj (h0:0<=i)(h:i.toNat<ds.length):da (.lst ds) (.int i)=some (ds.getD i.toNat .non,false):=by
 simp only[da];rw[lK h0 h];simp[List.getD,h]
def ro (h0:0<=i)(h:i.toNat<ds.length):da (.tup ds) (.int i)=some (ds.getD i.toNat .non,false):=by
 simp only[da];rw[lK h0 h];simp[List.getD,h]
def pR {xs:LI}{i:Int}(h0:0<=i)(h:i.toNat<xs.length):da (.lst (xs.map .int)) (.int i)=some (.int (xs.getD i.toNat 0),false):=by
 rw[yj h0 (by simpa using h)];simp[List.getD,h]
def kQ (z:Str):mF z=z.cps.toList.map λc=>.str ⟨#[c]⟩:=rfl
def bq {x m:Int}(hm:0<m):0<=x % m/\x % m<m:=⟨Int.emod_nonneg _ (by omega),Int.emod_lt_of_pos _ hm⟩
def sL {α:Type}(l:List α)(f:α->Str)(h:∀x∈l,(f x).length=1):((l.map f).map (·.length)).sum=l.length:=by
 induction l with
 |nil=>rfl
 |cons x l G=>
  have h1:=h x mX;have h2:=G λy hy=>h y (mZ _ hy);simp only[map_cons,List.sum_cons,vE,h1,h2];omega
def jP {α G:Type}(l:List α)(p:α->Bool)(h:α->G):decide ((((l.filter λx=>!p x).map h).length:Int)=0)=l.all p:=by
 rw[vI,Bool.eq_iff_iff,decide_eq_true_iff,all_eq_true];constructor
 ·intro e x hx;have M:l.filter (λx=>!p x)=[]:=List.length_eq_zero_iff.mp (by omega);have:=List.filter_eq_nil_iff.mp M x hx;simpa using this
 ·intro e;have:l.filter (λx=>!p x)=[]:=List.filter_eq_nil_iff.mpr λx hx=>by simp[e x hx]
  rw[this];rfl
def uW:bp [.lst ds]=some (.int ds.length,false):=rfl
def pS:cB (.int i) (.int j)=some (.bl (decide (i=j)),false):=by simp
def dZ (h:0<=v):HT.cu n d (some v)=min v.toNat n:=by
 show(if v<0 then (v+(n:Int)).toNat else min v.toNat n)=_;rw[if_neg (by omega)]
def sM {α:Type}(xs:List α)(lo hi:OI):List α:=(xs.drop (HT.cu xs.length 0 lo)).take (HT.cu xs.length xs.length hi - HT.cu xs.length 0 lo)
def mR {α:Type}(f:α->D)(xs:List α)(lo hi:OI):c8 (xs.map f) lo hi=(sM xs lo hi).map f:=by
 unfold c8 sM;rw[vI,map_take,map_drop]
@[simp] noncomputable abbrev F4 (M:LD)(G:Int)(t:Env):Env:=some (.tup M,false)::some (.int G,false)::t
@[simp] noncomputable abbrev eR (ns:LI)(zs:LS)(M:Int)(G:LS)(R:LD)(a b:OB)(t:Env):Env:=some (.lst (ns.map .int),false)::some (.lst (zs.map .str),false)::some (.int M,false)::a::some (.lst (G.map .str),true)::some (.lst R,true)::b::t
end DL
namespace Lw
open PySem DL
def eM:D:=(.int 255)
def gI:D:=(.int 9999)
def fX:D:=(.int 9)
def ej:D:=(.int 8)
def dw:D:=(.int 8)
def iU:D:=(.int 60)
noncomputable def bd:List (PySem.Str×D):=[(("root" : Str),(.tup [(.str "office"),(.str "matters"),(.str "further"),(.str "rule")])),(("named" : Str),(.tup [(.str "day"),(.str "office"),(.str "person")])),(("chosen" : Str),(.tup [(.str "day"),(.str "by"),(.str "office"),(.str "person"),(.str "since")])),(("heir" : Str),(.tup [(.str "day"),(.str "by"),(.str "office"),(.str "person")])),(("death" : Str),(.tup [(.str "day"),(.str "person")])),(("lost" : Str),(.tup [(.str "day"),(.str "person")])),(("found" : Str),(.tup [(.str "day"),(.str "person")])),(("leave" : Str),(.tup [(.str "day"),(.str "by"),(.str "person"),(.str "matters"),(.str "stretch"),(.str "further")])),(("paper" : Str),(.tup [(.str "day"),(.str "by"),(.str "matters"),(.str "stretch"),(.str "whom"),(.str "pieces")])),(("like" : Str),(.tup [(.str "day"),(.str "by"),(.str "matters"),(.str "stretch"),(.str "whom"),(.str "of"),(.str "changes")])),(("copy" : Str),(.tup [(.str "day"),(.str "by"),(.str "of")])),(("call" : Str),(.tup [(.str "day"),(.str "by"),(.str "of")]))]
noncomputable def pT:D:=(.tup [(.str "open"),(.str "first"),(.str "last")])
def jQ:FS :=
  (aD (gT (fA ap (fV 0 (aa (fC (.ty "int")) ag))) (gT (xH (fA ap (fV 0 (aa (fC (.ty "bool")) ag)))) (cS gD gD (ak 1) (ak 0) (ak 2)))))
def cU:=aY jQ 3 0
def mS:FS :=
  (aD (fA cU (fV 0 (aa (fI 0) (aa (fC gI) ag)))))
def fg:=aY mS 1 0
def hG:FS :=
  (ay (bU (b7 (aN (aO (fA ap (fV 0 (aa (fC (.ty "tuple")) ag))))) (b7 (aO (f2 jl (fA bp (fV 0 ag)) (fI 2))) (aN (aO (fA fg (aa (be 0 0) ag)))))) (aD (fC (.bl false))) aA)
  (aD (wk (f2 uD (be 0 1) (fC .non)) (gT (fA fg (aa (be 0 1) ag)) (f2 p9 (be 0 0) (be 0 1))))))
def dP:=aY hG 1 0
def hJ:FS :=
  (aD (fA cU (fV 0 (aa (fI 1) (aa (fC eM) ag)))))
def fH:=aY hJ 1 0
def kR:FS :=
  (ay (bU (b7 (aN (aO (fA ap (fV 0 (aa (fC (.ty "str")) ag))))) (aN (aO (cS gD gD (fI 1) (fA bp (fV 0 ag)) (fC ej))))) (aD (fC (.bl false))) aA)
  (aD (fA iz (aa (bC (dO (ak 0)) 1 [] (dX 0) cO (cS gD gD (fS "a") (ak 0) (fS "z"))) ag))))
def dS:=aY kR 1 0
def kS:FS :=
  (aD (gT (fA ap (fV 0 (aa (fC (.ty "str")) ag))) (f2 Al (ak 0) (fC pT))))
def iD:=aY kS 1 0
def jR:FS :=
  (aD (fA dS (fV 0 ag)))
def fJ:=aY jR 1 0
def iV:FS :=
  (ay (bU (b7 (aN (aO (fA ap (fV 0 (aa (fC (.ty "tuple")) ag))))) (aN (aO (cS gD gD (fI 1) (fA bp (fV 0 ag)) (fC dw))))) (aD (fC (.bl false))) aA)
  (aD (fA iz (aa (bC (dO (ak 0)) 1 [] (dX 0) cO (fA fJ (fV 0 ag))) ag))))
def fY:=aY iV 1 0
def iW:FS :=
  (ay (bU (b7 (aN (aO (fA ap (fV 0 (aa (fC (.ty "tuple")) ag))))) (aO (f2 jl (fA bp (fV 0 ag)) (fI 2)))) (aD (fC (.bl false))) aA)
  (aD (gT (fA cU (aa (be 0 0) (aa (fI 0) (aa (f2 lD (fC dw) (fI 1)) ag)))) (fA fJ (aa (be 0 1) ag)))))
def dE:=aY iW 1 0
def hQ:FS :=
  (ay (bU (b7 (aN (aO (fA ap (fV 0 (aa (fC (.ty "tuple")) ag))))) (aN (aO (fA iz (aa (bC (dO (ak 0)) 1 [] (dX 0) cO (fA dE (fV 0 ag))) ag))))) (aD (fC (.bl false))) aA)
  (ay (ba 1 (bC (dO (ak 0)) 1 [] (dX 0) cO (be 0 0)))
  (aD (fA iz (aa (bC (uM (ak 1) (gF (ak 1) (bj (fI 1)) cP)) 2 [] (za [0,1]) cO (f2 p9 (ak 0) (ak 1))) ag)))))
def fK:=aY hQ 1 1
def kT:FS :=
  (ay (bU (b7 (aO (f2 cB (ak 0) (fS "day"))) (aO (f2 cB (ak 0) (fS "since")))) (aD (fA fg (fV 1 ag))) aA)
  (ay (bU (b7 (aO (f2 cB (ak 0) (fS "office"))) (b7 (aO (f2 cB (ak 0) (fS "by"))) (aO (f2 cB (ak 0) (fS "person"))))) (aD (fA dS (fV 1 ag))) aA)
  (ay (bU (aO (f2 cB (ak 0) (fS "whom"))) (aD (wk (f2 uD (ak 1) (fC .non)) (fA dS (fV 1 ag)))) aA)
  (ay (bU (aO (f2 cB (ak 0) (fS "matters"))) (aD (fA fH (fV 1 ag))) aA)
  (ay (bU (aO (f2 cB (ak 0) (fS "stretch"))) (aD (fA dP (fV 1 ag))) aA)
  (ay (bU (aO (f2 cB (ak 0) (fS "further"))) (aD (fA cU (fV 1 (aa (fI 0) (aa (fC fX) ag))))) aA)
  (ay (bU (aO (f2 cB (ak 0) (fS "rule"))) (aD (fA iD (fV 1 ag))) aA)
  (ay (bU (aO (f2 cB (ak 0) (fS "of"))) (aD (fA cU (fV 1 (aa (fI 0) (aa (f2 lD (fC iU) (fI 1)) ag))))) aA)
  (ay (bU (aO (f2 cB (ak 0) (fS "pieces"))) (aD (fA fY (fV 1 ag))) aA)
  (aD (fA fK (fV 1 ag))))))))))))
def iE:=aY kT 2 0
def kU:FS :=
  (ay (bU (b7 (aN (aO (fA ap (fV 0 (aa (fC (.ty "tuple")) ag))))) (b7 (aO (f2 cB (fA bp (fV 0 ag)) (fI 0))) (aN (aO (fA ap (aa (be 0 0) (aa (fC (.ty "str")) ag))))))) (aD (fC (.bl false))) aA)
  (ay (bU (b7 (aO (f1 (jG bd) (be 0 0))) (aO (f2 jl (fA bp (fV 0 ag)) (f2 bG (fI 1) (fA bp (aa (f1 (gH bd) (be 0 0)) ag)))))) (aD (fC (.bl false))) aA)
  (aD (fA iz (aa (bC (uM (f1 (gH bd) (be 0 0)) (gF (ak 0) (bj (fI 1)) cP)) 2 [] (za [0,1]) cO (fA iE (fV 0 (fV 1 ag)))) ag)))))
def cV:=aY kU 1 0
def kW:FS :=
  (aD (f2 da (be 0 1) (fI 0)))
def dU:=aY kW 1 0
def kX:FS :=
  (aD (f2 da (be 0 1) (f2 bG (fI 1) (f2 (jn bd) (fA dU (fV 0 ag)) (ak 1)))))
def ft:=aY kX 2 0
def mT:FS :=
  (ay (bU (aO (f2 cB (fA dU (fV 0 ag)) (fS "root"))) (aD (fC .non)) aA)
  (aD (fA ft (fV 0 (aa (fS "day") ag)))))
def mU:=aY mT 1 0
def iX:FS :=
  (ay (ba 1 (fA mU (fV 0 ag)))
  (ay (bU (aO (f2 uD (ak 1) (fC .non))) (aD (fC (.bl true))) aA)
  (ay (bU (gR (aO (f2 cB (fA dU (fV 0 ag)) (fS "chosen"))) (aO (f2 p9 (fA ft (fV 0 (aa (fS "since") ag))) (ak 1)))) (aD (fC (.bl false))) aA)
  (aD (f2 gD (ak 1) (be 0 0))))))
def dF:=aY iX 1 1
def mV:FS :=
  (ay (bU (b7 (aN (aO (fA ap (fV 0 (aa (fC (.ty "tuple")) ag))))) (aO (f2 jl (fA bp (fV 0 ag)) (fI 2)))) (aD (fC (.bl false))) aA)
  (aD (gT (fA fg (aa (be 0 0) ag)) (gT (fA cV (aa (be 0 1) ag)) (fA dF (fV 0 ag))))))
def ca:=aY mV 1 0
def kY:FS :=
  (ay (bU (aO (f2 cB (fA bp (fV 0 ag)) (fI 0))) (aD (fA b9 (aa (fI 0) ag))) aA)
  (aD (gF (ak 0) cP (bj (fI 12)))))
def kZ:=aY kY 1 0
def iY:FS :=
  (ay (ba 4 (f2 bc (f2 bG (f2 bG (f2 bG (f2 fN (ak 4) (ak 4)) (f2 fN (fI 48271) (ak 4))) (ak 5)) (ak 1)) (fI 2147483647)))
  (l8 3 (ak 4)))
def jS:FS :=
  (ay (ba 3 (fA b9 ag))
  (ay (ba 4 (f2 bc (f2 bG (f2 bG (f2 fN (f2 bc (ak 0) (fI 2147483647)) (fI 48271)) (f2 fN (f2 fN (ak 1) (ak 1)) (fI 69621))) (fI 11)) (fI 2147483647)))
  (ay (iR (dL (ak 2)) (dX 5) iY)
  (j5 3))))
def gJ:=aY jS 3 3
def mW:FS :=
  (ay (ba 1 (fS "abcdefghijklmnopqrstuvwxyz"))
  (aD (f2 gX (fS "") (bC (dL (f2 bG (fI 1) (f2 bc (ak 0) (fI 8)))) 1 [1,0] (dX 0) cO (f2 da (ak 1) (f2 bc (f2 bG (f2 cT (ak 2) (fI 8)) (f2 fN (ak 0) (f2 cT (ak 2) (fI 211)))) (fI 26)))))))
def db:=aY mW 1 1
def iZ:FS :=
  (ay (ba 2 (f2 da (fA b9 (aa (f2 bc (f2 cT (ak 0) (fI 4)) (fI 20)) (aa (f2 bc (f2 cT (ak 0) (fI 4)) (fI 9999)) (aa (fI 9998) (aa (fI 0) ag))))) (f2 bc (ak 0) (fI 4))))
  (ay (bU (aO (f2 cB (f2 bc (ak 1) (fI 3)) (fI 0))) (aD (fA aE (fV 2 (aa (fC .non) ag)))) aA)
  (aD (fA aE (fV 2 (aa (f2 da (fA b9 (aa (f2 bG (f2 bG (ak 2) (fI 1)) (f2 bc (f2 cT (ak 1) (fI 3)) (f2 lD (fI 9999) (ak 2)))) (aa (fI 9999) ag))) (f2 bc (f2 cT (ak 1) (fI 9)) (fI 2))) ag))))))
def fZ:=aY iZ 2 1
def hU:FS :=
  (ay (ba 2 (f2 bG (ak 2) (f2 bc (ak 3) (fI 3))))
  (ay (bU (aO (f2 p9 (ak 2) (fI 8))) (l8 1 (fA aE (fV 2 (aa (fA db (aa (f2 cT (ak 3) (fI 3)) ag)) ag)))) aA)
  (ba 2 (f2 bG (ak 2) (fI 1)))))
def ja:FS :=
  (ay (ba 1 (fA b9 ag))
  (ay (ba 2 (fI 0))
  (ay (nP (dO (ak 0)) (dX 3) hU)
  (aD (fA bZ (aa (gF (ak 1) cP (bj (f2 bc (f2 cT (be 0 0) (fI 7)) (fI 9)))) ag))))))
def dG:=aY ja 1 3
def nc:FS :=
  (ay (ba 1 (f2 da (fA b9 (aa (f2 bc (be 0 1) (fI 30)) (aa (f2 bc (be 0 1) (fI 10000)) (aa (fI 0) (aa (fI 9999) ag))))) (f2 bc (f2 cT (be 0 1) (fI 10000)) (fI 4))))
  (ay (mH [2,3,4] (bC (dO (gF (ak 0) (bj (fI 2)) (bj (fI 5)))) 1 [] (dX 0) cO (fA db (fV 0 ag))))
  (ay (ba 5 (f2 da (fA b9 (aa (f2 bG (fI 1) (f2 bc (be 0 5) (fI 255))) (aa (fI 255) (aa (fI 1) ag)))) (f2 bc (f2 cT (be 0 5) (fI 256)) (fI 3))))
  (ay (ba 6 (f2 da (fA b9 (aa (f2 bc (be 0 6) (fI 10)) (aa (fI 9) (aa (fI 0) ag)))) (f2 bc (f2 cT (be 0 6) (fI 16)) (fI 3))))
  (ay (ba 7 (f2 da (fA b9 (aa (f2 bc (be 0 6) (fI 60)) (aa (fI 59) (aa (fI 0) ag)))) (f2 bc (f2 cT (be 0 6) (fI 64)) (fI 3))))
  (ay (ba 8 (fA fZ (aa (be 0 7) (aa (be 0 8) ag))))
  (ay (ba 9 (f2 da (fA b9 (aa (fC .non) (fV 4 ag))) (f2 bc (be 0 9) (fI 2))))
  (ay (ba 10 (f2 bc (be 0 0) (fI 12)))
  (ay (bU (aO (f2 cB (ak 10) (fI 0))) (aD (fA aE (aa (fS "root") (fV 2 (fV 5 (fV 6 (aa (f2 da (fA b9 (aa (fS "open") (aa (fS "first") (aa (fS "last") ag)))) (f2 bc (be 0 9) (fI 3))) ag))))))) aA)
  (ay (bU (aO (f2 cB (ak 10) (fI 1))) (aD (fA aE (aa (fS "chosen") (fV 1 (fV 2 (fV 3 (fV 4 (aa (fA rY (aa (fI 9999) (aa (f2 bG (ak 1) (f2 bc (be 0 9) (fI 3))) ag))) ag)))))))) aA)
  (ay (bU (aO (f2 cB (ak 10) (fI 2))) (aD (fA aE (aa (fS "leave") (fV 1 (fV 2 (fV 3 (fV 5 (fV 8 (fV 6 ag))))))))) aA)
  (ay (bU (aO (f2 cB (ak 10) (fI 3))) (aD (fA aE (aa (fS "paper") (fV 1 (fV 2 (fV 5 (fV 8 (fV 9 (aa (fA bZ (aa (bC (dO (gF (ak 0) (bj (fI 10)) (bj (f2 bG (fI 11) (f2 bc (f2 cT (be 0 9) (fI 2)) (fI 8)))))) 1 [] (dX 0) cO (fA db (fV 0 ag))) ag)) ag))))))))) aA)
  (ay (bU (aO (f2 cB (ak 10) (fI 4))) (aD (fA aE (aa (fS "like") (fV 1 (fV 2 (fV 5 (fV 8 (fV 9 (fV 7 (aa (fA dG (aa (gF (ak 0) (bj (fI 10)) (bj (fI 18))) ag)) ag)))))))))) aA)
  (ay (bU (aO (f2 p9 (ak 10) (fI 7))) (aD (fA aE (aa (f2 da (fA b9 (aa (fS "copy") (aa (fS "call") ag))) (f2 lD (ak 10) (fI 5))) (fV 1 (fV 2 (fV 7 ag)))))) aA)
  (ay (bU (aO (f2 p9 (ak 10) (fI 10))) (aD (fA aE (aa (f2 da (fA b9 (aa (fS "death") (aa (fS "lost") (aa (fS "found") ag)))) (f2 lD (ak 10) (fI 7))) (fV 1 (fV 2 ag))))) aA)
  (ay (bU (aO (f2 cB (ak 10) (fI 10))) (aD (fA aE (aa (fS "heir") (fV 1 (fV 2 (fV 3 (fV 4 ag))))))) aA)
  (aD (fA aE (aa (fS "named") (fV 1 (fV 2 (fV 3 ag))))))))))))))))))))))
def jT:=aY nc 1 10
def la:FS :=
  (ay (ba 1 (fA b9 (aa (fC (.bl true)) (aa (fC (.bl false)) (aa (fC .non) (aa (f1 uC (fI 1)) (aa (fI 256) (aa (fI 10) (aa (fI 60) (aa (fI 10000) (aa (fI 8) (aa (fI 0) (aa (fS "") (aa (fS "A") (aa (fS "abcdefghi") (aa (fS "a b") (aa (fS "open") (aa (fA b9 ag) (aa (fA aE ag) (aa (fA aE (aa (fI 3) (aa (fI 3) ag))) ag))))))))))))))))))))
  (ay (ba 1 (f2 bG (ak 1) (fA b9 (aa (fA aE (aa (fS "a") ag)) (aa (fA b9 (aa (fS "a") ag)) (aa (fA aE (aa (fI 0) (aa (fI 10000) ag))) (aa (fA aE (aa (fI 5) (aa (fI 4) ag))) (aa (fA aE (aa (fI 7) (aa (fS "a") ag))) (aa (fA aE (aa (fI 8) (aa (fS "a") ag))) (aa (fA aE (aa (fA aE (aa (fI 0) (aa (fS "a") ag))) (aa (fA aE (aa (fI 0) (aa (fS "b") ag))) ag))) (aa (fA aE (aa (fA aE (aa (fI 1) (aa (fS "a") ag))) (aa (fA aE (aa (fI 0) (aa (fS "b") ag))) ag))) ag)))))))))))
  (ay (ba 1 (f2 bG (ak 1) (fA b9 (aa (fA aE (aa (fA aE (aa (fI 2) (aa (fS "a") ag))) ag)) (aa (f2 sF (fA aE (aa (fS "a") ag)) (fI 9)) (aa (fA aE (aa (fI 0) (aa (fS "A") ag))) (aa (f2 Ad (fI 10) (fI 30)) (aa (fA aE (aa (fC .non) (aa (fI 3) ag))) (aa (fS "death") (aa (fA aE (aa (fI 0) (aa (fI 1) (aa (fI 2) ag)))) (aa (fA aE (aa (fC (.bl true)) (aa (fI 4) ag))) (aa (fI 1) ag))))))))))))
  (aD (f2 da (ak 1) (f2 bc (ak 0) (fA bp (fV 1 ag))))))))
def iF:=aY la 1 1
def ng (Fr:LD->OB):FS :=
  (ay (ba 2 (fA bS (fV 0 ag)))
  (ay (bU (aO (f2 cB (fA bp (fV 2 ag)) (fI 0))) (aD (fA aE (aa (f2 bc (be 1 0) (fI 3)) ag))) aA)
  (ay (ba 3 (f2 bc (be 1 0) (fA bp (fV 2 ag))))
  (ay (bU (gR (aO (fA ap (aa (f2 da (ak 2) (ak 3)) (aa (fC (.ty "tuple")) ag)))) (aO (f2 rQ (f2 bc (be 1 1) (fI 3)) (fI 0)))) (ay (mO 2 (ak 3) Fr (ak 3) (gF (ak 1) (bj (fI 2)) cP))
  (aD (fA bZ (fV 2 ag)))) aA)
  (ay (ba 4 (f2 bc (f2 cT (be 1 1) (fI 3)) (fI 8)))
  (ay (bU (aO (f2 cB (ak 4) (fI 0))) (aD (fA bZ (aa (f2 bG (gF (ak 2) cP (bj (ak 3))) (gF (ak 2) (bj (f2 bG (ak 3) (fI 1))) cP)) ag))) aA)
  (ay (bU (aO (f2 cB (ak 4) (fI 1))) (aD (fA bZ (aa (f2 bG (f2 bG (gF (ak 2) cP (bj (ak 3))) (fA b9 (aa (f2 da (ak 2) (ak 3)) ag))) (gF (ak 2) (bj (ak 3)) cP)) ag))) aA)
  (ay (mN 2 (ak 3) (fA iF (aa (be 1 2) ag)))
  (aD (fA bZ (fV 2 ag)))))))))))
def dc:Nat->LD->OB
 |0=>aY oh 2 3
 |n+1=>aY (ng (dc n)) 2 3
def lb:FS :=
  (ay (bU (b7 (aO (f2 uD (ak 0) (fC (.bl true)))) (b7 (aO (f2 uD (ak 0) (fC (.bl false)))) (aN (aO (fA ap (fV 0 (aa (fC (.ty "int")) ag))))))) (aD (fC (.bl false))) aA)
  (aD (gT (f2 gD (ak 1) (ak 0)) (f2 gD (ak 0) (ak 2)))))
def bg:=aY lb 3 0
def jc:FS :=
  (ay (bU (b7 (aN (aO (fA ap (fV 0 (aa (fC (.ty "str")) ag))))) (b7 (aO (f2 cB (fA bp (fV 0 ag)) (fI 0))) (aO (f2 rQ (fA bp (fV 0 ag)) (fI 8))))) (aD (fC (.bl false))) aA)
  (aD (f2 cB (fA bp (aa (bC (dO (ak 0)) 1 [] (dX 0) (aN (aO (cS gD gD (fS "a") (ak 0) (fS "z")))) (ak 0)) ag)) (fI 0))))
def cw:=aY jc 1 0
def ga:FS :=
  (ay (bU (b7 (aN (aO (fA ap (fV 0 (aa (fC (.ty "tuple")) ag))))) (b7 (aO (f2 jl (fA bp (fV 0 ag)) (fI 2))) (aN (aO (fA bg (aa (be 0 0) (aa (fI 0) (aa (fI 9999) ag)))))))) (aD (fC (.bl false))) aA)
  (aD (wk (f2 uD (be 0 1) (fC .non)) (fA bg (aa (be 0 1) (aa (f2 bG (be 0 0) (fI 1)) (aa (fI 9999) ag)))))))
def et:=aY ga 1 0
def aZ:FS :=
  (ay (bU (b7 (aN (aO (fA ap (fV 2 (aa (fC (.ty "tuple")) ag))))) (aO (f2 jl (fA bp (fV 2 ag)) (fI 2)))) (aD (fC (.bl false))) aA)
  (ay (bU (b7 (aN (aO (fA bg (aa (be 2 0) (fV 1 (aa (fI 7) ag)))))) (aN (aO (fA cw (aa (be 2 1) ag))))) (aD (fC (.bl false))) aA)
  (ba 1 (f2 bG (be 2 0) (fI 1)))))
def gb:FS :=
  (ay (bU (aN (aO (fA ap (fV 0 (aa (fC (.ty "tuple")) ag))))) (aD (fC (.bl false))) aA)
  (ay (ba 1 (fI 0))
  (ay (nP (dO (ak 0)) (dX 2) aZ)
  (aD (fC (.bl true))))))
def eA:=aY gb 1 2
def gz:FS :=
  (ay (bU (b7 (aN (aO (fA ap (fV 0 (aa (fC (.ty "tuple")) ag))))) (b7 (aO (f2 cB (fA bp (fV 0 ag)) (fI 0))) (aO (f2 rQ (fA bp (fV 0 ag)) (fI 8))))) (aD (fC (.bl false))) aA)
  (aD (f2 cB (fA bp (aa (bC (dO (ak 0)) 1 [] (dX 0) (aN (aO (fA cw (fV 0 ag)))) (ak 0)) ag)) (fI 0))))
def eN:=aY gz 1 0
def ni:FS :=
  (ay (bU (aO (f2 cB (ak 0) (fS "n"))) (aD (fA cw (fV 1 ag))) aA)
  (ay (bU (aO (f2 cB (ak 0) (fS "w"))) (aD (wk (f2 uD (ak 1) (fC .non)) (fA cw (fV 1 ag)))) aA)
  (ay (bU (aO (f2 cB (ak 0) (fS "m"))) (aD (fA bg (fV 1 (aa (fI 1) (aa (fI 255) ag))))) aA)
  (ay (bU (aO (f2 cB (ak 0) (fS "f"))) (aD (fA bg (fV 1 (aa (fI 0) (aa (fI 9) ag))))) aA)
  (ay (bU (aO (f2 cB (ak 0) (fS "o"))) (aD (fA bg (fV 1 (aa (fI 0) (aa (fI 59) ag))))) aA)
  (ay (bU (aO (f2 cB (ak 0) (fS "s"))) (aD (fA et (fV 1 ag))) aA)
  (ay (bU (aO (f2 cB (ak 0) (fS "d"))) (aD (fA bg (fV 1 (fV 2 (aa (fI 9999) ag))))) aA)
  (ay (bU (aO (f2 cB (ak 0) (fS "c"))) (aD (fA eA (fV 1 ag))) aA)
  (ay (bU (aO (f2 cB (ak 0) (fS "p"))) (aD (fA eN (fV 1 ag))) aA)
  (aD (gT (f2 cB (ak 0) (fS "r")) (gT (fA ap (fV 1 (aa (fC (.ty "str")) ag))) (f2 Al (ak 1) (fA aE (aa (fS "open") (aa (fS "first") (aa (fS "last") ag)))))))))))))))))
def hV:=aY ni 3 0
def le:FS :=
  (ay (kK 1 [(("named" : Str),(fS "nn")),(("chosen" : Str),(fS "nnnd")),(("heir" : Str),(fS "nnn")),(("death" : Str),(fS "n")),(("lost" : Str),(fS "n")),(("found" : Str),(fS "n")),(("leave" : Str),(fS "nnmsf"))])
  (ay (kK 2 [(("paper" : Str),(fS "nmswp")),(("like" : Str),(fS "nmswoc")),(("copy" : Str),(fS "no")),(("call" : Str),(fS "no"))])
  (aD (sE (ak 1) (ak 0) (sE (ak 2) (ak 0) (fS ("-" : PySem.Str)))))))
def iG:=aY le 1 2
def pU:FS :=
  (ay (bU (b7 (aN (aO (fA ap (fV 0 (aa (fC (.ty "tuple")) ag))))) (b7 (aO (f2 jl (fA bp (fV 0 ag)) (fI 2))) (aN (aO (fA bg (aa (be 0 0) (aa (fI 0) (aa (fI 9999) ag)))))))) (aD (fC (.bl false))) aA)
  (ay (ba 1 (be 0 1))
  (ay (bU (b7 (aN (aO (fA ap (fV 1 (aa (fC (.ty "tuple")) ag))))) (b7 (aO (f2 p9 (fA bp (fV 1 ag)) (fI 2))) (aN (aO (fA ap (aa (be 1 0) (aa (fC (.ty "str")) ag))))))) (aD (fC (.bl false))) aA)
  (ay (ba 2 (fA iG (aa (be 1 0) ag)))
  (ay (ba 3 (gF (ak 1) (bj (fI 2)) cP))
  (ay (ba 4 (fI 0))
  (ay (bU (aO (f2 cB (be 1 0) (fS "root"))) (ay (ba 2 (fS "nmfr"))
  (ba 3 (gF (ak 1) (bj (fI 1)) cP))) (bU (aO (fA bg (aa (be 1 1) (aa (fI 0) (aa (be 0 0) ag))))) (ba 4 (be 1 1)) (aD (fC (.bl false)))))
  (ay (bU (aO (f2 jl (fA bp (fV 3 ag)) (fA bp (fV 2 ag)))) (aD (fC (.bl false))) aA)
  (aD (f2 cB (fA bp (aa (bC (dL (fA bp (fV 3 ag))) 1 [4,2,3] (dX 0) (aN (aO (fA hV (aa (f2 da (ak 2) (ak 0)) (aa (f2 da (ak 3) (ak 0)) (fV 1 ag)))))) (ak 0)) ag)) (fI 0)))))))))))
def cI:=aY pU 1 4
def sO:FS :=
  (ay (ba 3 (fA gJ (aa (f2 da (ak 1) (ak 2)) (fV 2 (aa (fI 34) ag)))))
  (ay (ba 4 (fA jT (fV 3 ag)))
  (ay (ba 5 (fA aE (aa (f2 da (fA b9 (aa (fI 9999) (aa (f2 bc (be 3 18) (fI 10000)) ag))) (f2 bc (be 3 19) (fI 2))) (fV 4 ag))))
  (ay (bU (aO (f2 jl (be 4 0) (fS "root"))) (ba 5 (fA aE (aa (fA rX (aa (be 5 0) (aa (be 4 1) ag))) (fV 4 ag)))) aA)
  (ay (bU (b7 (aO (f2 lG (fA ca (fV 5 ag)) (fC (.bl true)))) (aN (aO (fA cI (fV 5 ag))))) (aD (fC (.bl false))) aA)
  (ay (ba 6 (ak 5))
  (ay (bU (aO (f2 rQ (f2 bc (be 3 20) (fI 4)) (fI 0))) (ba 6 (fA (dc 6) (fV 5 (aa (gF (ak 3) (bj (fI 21)) cP) ag)))) aA)
  (ay (bU (aO (f2 cB (f2 bc (be 3 20) (fI 16)) (fI 4))) (ba 6 (f2 da (fA b9 (aa (fA bS (fV 5 ag)) (fV 4 (aa (fA aE (aa (be 5 0) ag)) (aa (fA aE ag) (aa (fA aE (aa (be 5 0) (aa (fA bS (fV 4 ag)) ag))) (aa (fA aE (aa (be 4 0) (fV 4 ag))) ag))))))) (f2 bc (be 3 21) (fI 6)))) aA)
  (ay (ba 7 (fA ca (fV 6 ag)))
  (bU (b7 (aN (aO (fA ap (fV 7 (aa (fC (.ty "bool")) ag))))) (aO (f2 jl (ak 7) (fA cI (fV 6 ag))))) (aD (fC (.bl false))) aA))))))))))
def wz:FS :=
  (ay (ba 1 (fA kZ (fV 0 ag)))
  (ay (iR (dL (fA bp (fV 1 ag))) (dX 2) sO)
  (aD (fC (.bl true)))))
def F_law:=aY wz 1 7
end Lw
namespace Lw
open PySem DL L2
noncomputable def aw:D->Int->Int->Bool
 |.int i,lo,hi=>decide (lo<=i) && decide (i<=hi)
 |_,_,_=>false
@[simp] def bE (i lo hi:Int):aw (.int i) lo hi=(decide (lo<=i) && decide (i<=hi)):=rfl
@[simp] def yk (lo hi:Int):aw .non lo hi=false:=rfl
@[simp] def zc (b:Bool)(lo hi:Int):aw (.bl b) lo hi=false:=rfl
@[simp] def yn (b:Str)(lo hi:Int):aw (.str b) lo hi=false:=rfl
@[simp] def yo (b:LD)(lo hi:Int):aw (.tup b) lo hi=false:=rfl
@[simp] def yp (b:LD)(lo hi:Int):aw (.lst b) lo hi=false:=rfl
@[simp] def zd (a:LK)(b:LD)(lo hi:Int):aw (.dk a b) lo hi=false:=rfl
@[simp] def ze (a:List LK)(b:LD)(lo hi:Int):aw (.dt a b) lo hi=false:=rfl
def gc (d:D)(lo hi:Int)(G:jC d=false):cU [d,.int lo,.int hi]=some (.bl (aw d lo hi),false):=by
 cases d with
 |int i=>exact ar rfl (ao (dq (p:=true) (q:=decide (lo<=i) && decide (i<=hi)) (b1:=false) (by simp) λ_=>dq (p:=true) (q:=decide (lo<=i) && decide (i<=hi)) (b1:=false) (by simp) λ_=>gZ (x:=.int lo) (y:=.int i) (z:=.int hi) (b1:=false) (b2:=false) (b3:=false) (b4:=false) rfl rfl rfl rfl λ_=>rfl))
 |bl b=>exact ar rfl (ao (by simp))
 |ty n=>simp at G
 |_=>exact ar rfl (ao (by simp))
def iH (d:D)(G:jC d=false):fg [d]=some (.bl (aw d 0 9999),false):=ar rfl (ao (ae (ds:=[d,.int 0,.int 9999]) (by simp[gI]) (gc d 0 9999 G)))
def bI:D->Bool
 |.tup [a,b]=>aw a 0 9999 && (match a,b with
  |_,.non=>true
  |.int i,.int j=>(decide (0<=j) && decide (j<=9999)) && decide (i<j)
  |_,_=>false)
 |_=>false
def yq {α:Type}(x y:α):iQ [x,y] 0=some x:=rfl
def sP {α:Type}(x y:α):iQ [x,y] 1=some y:=rfl
def ot (d:D)(O:jC d=false)(hs:∀a b,d=.tup [a,b]->jC a=false/\jC b=false):dP [d]=some (.bl (bI d),false):=by
 cases d with
 |tup ds=>
  by_cases hl:ds.length=2
  ·match ds,hl with
   |[a,b],_=>
    obtain⟨ha,hb⟩:=hs a b rfl;have G:=iH a ha;have M:=iH b hb;cases hw:aw a 0 9999 with
    |false=>
     refine ar rfl (aL ?_ (ao (by simp[bI,hw])));simp[yq,G,hw]
    |true=>
     refine ar rfl (ax ?_ (ao ?_))
     ·simp[yq,G,hw]
     ·cases a with
      |int i=>
       cases b with
       |non=>simp[sP,bI];simpa using hw
       |int j=>
        refine(pO (p:=false) (q:=(decide (0<=j) && decide (j<=9999)) && decide (i<j)) (b1:=false) (by simp[sP]) λ_=>dq (b1:=false) (ae (ds:=[.int j]) (by simp[sP]) M) λ_=>by simp[yq,sP]).trans ?_;simp[bI]at hw ⊢;simp[hw]
       |ty n=>simp at hb
       |_=>simp[sP,bI,M]
      |_=>cases hw
  ·have hs:bI (.tup ds)=false:=by
    match ds,hl with
    |[],_=>rfl
    |[_],_=>rfl
    |_::_::_::_,_=>rfl
   refine ar rfl (aL (aS (p:=false) (q:=true) (by simp) λ_=>aS (p:=true) (q:=true) (a9 (b:=false) ?_) λz=>by cases z) (ao (by simp[hs])));simp;omega
 |ty n=>simp at O
 |_=>exact ar rfl (aL (by simp) (ao (by simp[bI])))
def jU (c:Nat):Bool:=decide (97<=c) && decide (c<=122)
def yr:("a" : Str)=⟨#[97]⟩:=by decide +kernel
def yt:("z" : Str)=⟨#[122]⟩:=by decide +kernel
def je (c:Nat)(ρ:DL.Env)(h:ρ[0]? = some (some (.str ⟨#[c]⟩,false))):cS gD gD (fC (.str "a")) (ak 0) (fC (.str "z")) ρ=some (.bl (jU c),false):=by
 refine gZ (x:=.str ⟨#[97]⟩) (y:=.str ⟨#[c]⟩) (z:=.str ⟨#[122]⟩) (b1:=false) (b2:=false) (b3:=false) (b4:=false) ?_ ?_ ?_ (pP _ _) λ_=>pP _ _
 ·rw[yr];rfl
 ·simp[h]
 ·rw[yt];rfl
noncomputable def aH:D->Bool
 |.str z=>(decide (1<=z.length) && decide (z.length<=8)) && z.cps.toList.all jU
 |_=>false
def hW (z:Str):z.cps.toList.length=z.length:=by simp[Str.length]
def ou (d:D)(M:jC d=false)(hz:∀z,d=.str z->z.length<=100000):dS [d]=some (.bl (aH d),false):=by
 cases d with
 |str z=>
  have hl:=cy (hz z rfl);have G:b7 (aN (aO (fA ap (aa (ak 0) (aa (fC (.ty "str")) ag))))) (aN (aO (cS gD gD (fC (.int 1)) (fA bp (aa (ak 0) ag)) (fC ej)))) [some (.str z,false)]=some (!(decide (1<=z.length) && decide (z.length<=8))):=by
   refine aS (p:=false) (by simp) λ_=>bM (a9 (gZ (x:=.int 1) (y:=.int z.length) (z:=.int 8) (b1:=false) (b2:=false) (b3:=false) (b4:=false) rfl (by simp[hl]) rfl ?_ λ_=>?_))
   ·simp only[gD];congr 3;exact decide_eq_decide.mpr (by omega)
   ·simp only[gD];congr 3;exact decide_eq_decide.mpr (by omega)
  cases hb:(decide (1<=z.length) && decide (z.length<=8)) with
  |true=>
   rw[hb]at G;have O:z.length<=8:=by
    rw[vD]at hb;exact of_decide_eq_true hb.2
   refine ar rfl (ax G (ao (ae (ds:=[.lst (z.cps.toList.map λc=>.bl (jU c))]) ?_ ?_)))
   ·have:=iT (fi:=dO (ak 0)) (nT:=1) (cap:=[]) (tg:=dX 0) (fe:=cS gD gD (fC (.str "a")) (ak 0) (fC (.str "z"))) (ρ:=[some (.str z,false)]) z.cps.toList (λc=>.str ⟨#[c]⟩) (λc=>.bl (jU c)) (by simp[kQ]) (by rw[hW];omega) λc _=>
     ⟨_,rfl,false,je c _ (by simp[jk])⟩
    show(bC _ _ _ _ _ _ [some (D.str z,false)]).bind _=_;rw[this];rfl
   ·simp only[iz,h6,map_some,aH,hb,Bool.true_and,all_map];rfl
  |false=>
   rw[hb]at G;refine ar rfl (aL G (ao ?_));simp[aH,hb]
 |ty n=>simp at M
 |_=>exact ar rfl (aL (by simp) (ao (by simp[aH])))
def sQ (d:D)(M:jC d=false)(hz:∀z,d=.str z->z.length<=100000):cw [d]=some (.bl (aH d),false):=by
 cases d with
 |str z=>
  have hl:=cy (hz z rfl);have G:b7 (aN (aO (fA ap (aa (ak 0) (aa (fC (.ty "str")) ag))))) (b7 (aO (f2 cB (fA bp (aa (ak 0) ag)) (fC (.int 0)))) (aO (f2 rQ (fA bp (aa (ak 0) ag)) (fC (.int 8))))) [some (.str z,false)]=some (!(decide (1<=z.length) && decide (z.length<=8))):=by
   rw[Bool.not_and];refine aS (p:=false) (by simp) λ_=>aS (a9 (b:=false) ?_) λ_=>a9 (b:=false) ?_
   ·refine a7 (x:=.int (z.length:Int)) (y:=.int 0) (b1:=false) (b2:=false) (ae (ds:=[.str z]) rfl (show(if z.length<=sizeLine then _ else _)=_ by rw[if_pos hl])) rfl ?_;rw[pS,←decide_not];congr 3;exact decide_eq_decide.mpr (by omega)
   ·refine a7 (x:=.int (z.length:Int)) (y:=.int 8) (b1:=false) (b2:=false) (ae (ds:=[.str z]) rfl (show(if z.length<=sizeLine then _ else _)=_ by rw[if_pos hl])) rfl ?_;show some (D.bl (decide ((8:Int)<(z.length:Int))),false)=_;rw[←decide_not];congr 3;exact decide_eq_decide.mpr (by omega)
  cases hb:(decide (1<=z.length) && decide (z.length<=8)) with
  |true=>
   rw[hb]at G;have O:z.length<=8:=by
    rw[vD]at hb;exact of_decide_eq_true hb.2
   refine ar rfl (ax G (ao ?_));have:=pQ (fi:=dO (ak 0)) (nT:=1) (cap:=[]) (tg:=dX 0) (c:=aN (aO (cS gD gD (fC (.str "a")) (ak 0) (fC (.str "z"))))) (fe:=ak 0) (ρ:=[some (.str z,false)]) z.cps.toList (λc=>.str ⟨#[c]⟩) (λc=>!jU c) (λc=>.str ⟨#[c]⟩) (by simp[kQ]) (by rw[hW];omega) λc _=>
     ⟨_,rfl,bM (a9 (je c _ (by simp[jk]))),λ_=>⟨false,by simp[jk]⟩⟩
   show(((bC _ _ _ _ _ _ [some (D.str z,false)]).bind _).bind _).bind _=_;rw[this];simp only[vJ,ag,uW,fC,pS,jP,aH,hb,Bool.true_and]
  |false=>
   rw[hb]at G;refine ar rfl (aL G (ao ?_));simp[aH,hb]
 |ty n=>simp at M
 |_=>exact ar rfl (aL (by simp) (ao (by simp[aH])))
def qG (d:D)(lo hi:Int)(G:jC d=false):bg [d,.int lo,.int hi]=some (.bl (aw d lo hi),false):=by
 cases d with
 |int i=>exact ar rfl (ax (by simp) (ao (dq (b1:=false) (by simp) λ_=>by simp)))
 |bl b=>cases b<;>exact ar rfl (aL (by simp) (ao (by simp)))
 |ty n=>simp at G
 |_=>exact ar rfl (aL (by simp) (ao (by simp)))
def oy (d:D)(G:jC d=false):fH [d]=some (.bl (aw d 1 255),false):=ar rfl (ao (ae (ds:=[d,.int 1,.int 255]) (by simp[eM]) (gc d 1 255 G)))
inductive Ok:D->Prop
 |non:Ok .non
 |bl (b:Bool):Ok (.bl b)
 |int (i:Int):Ok (.int i)
 |str (z:Str) (h:z.length<=1000):Ok (.str z)
 |tup (ds:List D) (h:ds.length<=1000) (hs:∀d∈ds,Ok d):Ok (.tup ds)
 |lst (ds:List D) (h:ds.length<=1000) (hs:∀d∈ds,Ok d):Ok (.lst ds)
def Ok.ty (h:Ok d):jC d=false:=by cases h<;>rfl
def Ok.txt (h:Ok d):∀z,d=.str z->z.length<=100000:=λz e=>by subst e;cases h;omega
def Ok.sub (h:Ok (.tup ds)):ds.length<=1000/\∀d∈ds,Ok d:=by cases h with|tup _ h hs=>exact⟨h,hs⟩
def nm (h:Ok d):dS [d]=some (.bl (aH d),false):=ou d h.ty h.txt
def B5 (h:Ok d):cw [d]=some (.bl (aH d),false):=sQ d h.ty h.txt
def pc (h:Ok d):fJ [d]=some (.bl (aH d),false):=ar rfl (ao (ae (ds:=[d]) rfl (nm h)))
def ke:D->Bool
 |.tup [_,_]=>true
 |_=>false
theorem uX:∀ds:LD,ke (.tup ds)=decide (ds.length=2)
 |[]=>rfl
 |[_]=>rfl
 |[_,_]=>rfl
 |_::_::_::l=>by
  show false=_;rw[decide_eq_false];simp only[vE];omega
def jf:D->Bool
 |.tup _=>true
 |_=>false
def w4 (h:Ok d):ap [d,.ty "tuple"]=some (.bl (jf d),false):=by cases h<;>rfl
def lf:D->Bool
 |.str _=>true
 |_=>false
def pV (h:Ok d):ap [d,.ty "str"]=some (.bl (lf d),false):=by cases h<;>rfl
def o0 {ρ:DL.Env}{i:Nat}{d:D}{b:Bool}(e:ρ[i]? = some (some (d,b))):ak i ρ=some (d,false):=by unfold ak;rw[e]
def Cq (a b:Int):jl (.int a) (.int b)=some (.bl (!decide (a=b)),false):=by simp
def qT (a b:Int):cB (.int a) (.int b)=some (.bl (decide (a=b)),false):=by simp
def yu (a b:Str):cB (.str a) (.str b)=some (.bl (decide (a=b)),false):=by simp
def hZ (h:Ok d){ρ:DL.Env}{i:Nat}{b:Bool}(e:ρ[i]? = some (some (d,b))):aN (aO (fA ap (fV i (aa (fC (.ty "tuple")) ag)))) ρ=some (!jf d):=bM (a9 (b:=false) (ae (ds:=[d,.ty "tuple"]) (am (o0 e) rfl) (w4 h)))
def Ds (h:Ok d){ρ:DL.Env}{i:Nat}{b:Bool}(e:ρ[i]? = some (some (d,b)))(G:jf d=true):aO (f2 jl (fA bp (fV i ag)) (fI 2)) ρ=some (!ke d):=by
 cases d<;>try (cases G;done)
 rename_i ds;refine a9 (b:=false) (a7 (x:=.int (ds.length:Int)) (y:=.int 2) (b1:=false) (b2:=false) (ae (ds:=[.tup ds]) (am (o0 e) rfl) rfl) rfl ?_);rw[Cq,uX];congr 4;exact decide_eq_decide.mpr (by omega)
def sR (G:jf d=false):ke d=false:=by cases d<;>first|rfl|cases G
def t2 (h:Ok d){ρ:DL.Env}{i:Nat}{b:Bool}(e:ρ[i]? = some (some (d,b))):b7 (aN (aO (fA ap (fV i (aa (fC (.ty "tuple")) ag))))) (aO (f2 jl (fA bp (fV i ag)) (fI 2))) ρ=some (!ke d):=by
 cases G:jf d with
 |true=>exact(aS (q:=!ke d) ((hZ h e).trans (by rw[G])) λ_=>Ds h e G).trans rfl
 |false=>exact(aS (p:=true) (q:=true) ((hZ h e).trans (by rw[G];rfl)) λz=>by cases z).trans (by rw[sR G];rfl)
def Cr {c:FT}{p:Bool}(h:Ok d){ρ:DL.Env}{i:Nat}{b:Bool}(e:ρ[i]? = some (some (d,b)))(hc:ke d=true->c ρ=some p):b7 (aN (aO (fA ap (fV i (aa (fC (.ty "tuple")) ag))))) (b7 (aO (f2 jl (fA bp (fV i ag)) (fI 2))) c) ρ=some (!ke d || p):=by
 cases G:jf d with
 |true=>
  refine(aS (q:=!ke d || p) ((hZ h e).trans (by rw[G])) λ_=>aS (Ds h e G) λz=>hc (by simpa using z)).trans rfl
 |false=>exact(aS (p:=true) (q:=true) ((hZ h e).trans (by rw[G];rfl)) λz=>by cases z).trans (by rw[sR G];rfl)
def ge (h:ke d=true):∃a b,d=.tup [a,b]:=by
 match d,h with
 |.tup [a,b],_=>exact⟨a,b,rfl⟩
def yw {ds:LD}{n:Nat}{r:D}(h:ds[n]? = some r):iQ ds (n:Int)=some r:=by
 have:=(vV h);rw[sG this.1,this.2]
def gf {ρ:DL.Env}{i n:Nat}{ds:LD}{d:D}{b:Bool}(e:ρ[i]? = some (some (.tup ds,b)))(h:ds[n]? = some d):be i (n:Int) ρ=some (d,false):=a7 (x:=.tup ds) (y:=.int (n:Int)) (b1:=false) (b2:=false) (o0 e) rfl (show(iQ ds (n:Int)).map _=_ by rw[yw h];rfl)
def sS (k:Str)(G:LS):xM (.str k) (G.map .str)=decide (k∈G):=by
 induction G with
 |nil=>simp[xM]
 |cons w G M=>
  have:xM (.str k) ((w::G).map .str)=(cM (.str w) (.str k) || xM (.str k) (G.map .str)):=rfl;rw[this,M,mu];by_cases e:w=k
  ·simp[e]
  ·have O:¬k=w:=λz=>e z.symm;simp[e,O]
def qH (G:LS):(G.map D.str).all eF=true:=by
 induction G with
 |nil=>rfl
 |cons w G M=>simp[eF]
noncomputable def eO:LS:=[("open" : Str),("first" : Str),("last" : Str)]
def ia:D->Bool
 |.str z=>decide (z∈eO)
 |_=>false
def nj (z:Str):Al (.str z) (.tup (eO.map .str))=some (.bl (decide (z∈eO)),false):=by
 simp only[Al,gU,vJ];rw[if_pos ⟨rfl,qH eO⟩,sS]
def sT (h:lf d=true):∃z,d=.str z:=by cases d<;>first|exact⟨_,rfl⟩|cases h
def uZ (h:Ok d):iD [d]=some (.bl (ia d),false):=by
 refine ar rfl (ao ((dq (p:=lf d) (q:=ia d) (b1:=false) (ae (ds:=[d,.ty "str"]) rfl (pV h)) λz=>?_).trans ?_))
 ·obtain⟨w,rfl⟩:=sT z;exact a7 (x:=.str w) (y:=.tup (eO.map .str)) (b1:=false) (b2:=false) rfl rfl (nj w)
 ·cases d<;>rfl
noncomputable def dz:D->Bool
 |.tup ds=>(decide (1<=ds.length) && decide (ds.length<=8)) && ds.all aH
 |_=>false
def sU {ds:LD}{p:D->Bool}{fe:FE}{ρ:DL.Env}{i:Nat}{b:Bool}(e:ρ[i]? = some (some (.tup ds,b)))(hl:ds.length<=1000)(k:∀d∈ds,fe [some (d,false)]=some (.bl (p d),false)):fA iz (aa (bC (dO (ak i)) 1 [] (dX 0) cO fe) ag) ρ=some (.bl (ds.all p),false):=by
 refine ae (ds:=[.lst (ds.map λd=>.bl (p d))]) (am (b:=true) (iT (tg:=dX 0) ds (λd=>d) (λd=>.bl (p d)) ?_ (by omega) λd hd=>⟨_,rfl,false,k d hd⟩) rfl) ?_
 ·show(ak i ρ).bind _=_;rw[o0 e,map_id'];rfl
 ·simp only[iz,h6,map_some,all_map];rfl
def qI (h:Ok d):fY [d]=some (.bl (dz d),false):=by
 cases h with
 |tup ds hl hs=>
  have t:b7 (aN (aO (fA ap (fV 0 (aa (fC (.ty "tuple")) ag))))) (aN (aO (cS gD gD (fI 1) (fA bp (fV 0 ag)) (fC dw)))) [some (.tup ds,false)]=some (!(decide (1<=ds.length) && decide (ds.length<=8))):=by
   refine aS (p:=false) (hZ (.tup ds hl hs) rfl) λ_=>bM (a9 (gZ (x:=.int 1) (y:=.int ds.length) (z:=.int 8) (b1:=false) (b2:=false) (b3:=false) (b4:=false) rfl rfl rfl ?_ λ_=>?_))
   ·simp only[gD];congr 3;exact decide_eq_decide.mpr (by omega)
   ·simp only[gD];congr 3;exact decide_eq_decide.mpr (by omega)
  cases hb:(decide (1<=ds.length) && decide (ds.length<=8)) with
  |true=>
   rw[hb]at t;refine ar rfl (ax t (ao ((sU (p:=aH) rfl hl λd hd=>ae (ds:=[d]) rfl (pc (hs d hd))).trans ?_)));simp only[dz,hb,Bool.true_and]
  |false=>
   rw[hb]at t;refine ar rfl (aL t (ao ?_));simp only[dz,hb,Bool.false_and];rfl
 |_=>exact ar rfl (aL ((aS (p:=true) (q:=true) rfl λz=>by cases z).trans rfl) (ao rfl))
def cb:D->Bool
 |.tup [a,b]=>aw a 0 7 && aH b
 |_=>false
def lg (h:ke d=false):cb d=false:=by
 match d,h with
 |.tup [],_=>rfl
 |.tup [_],_=>rfl
 |.tup (_::_::_::_),_=>rfl
 |.non,_=>rfl
 |.bl _,_=>rfl
 |.int _,_=>rfl
 |.str _,_=>rfl
 |.ty _,_=>rfl
 |.lst _,_=>rfl
 |.dk _ _,_=>rfl
 |.dt _ _,_=>rfl
def qJ (h:Ok d):dE [d]=some (.bl (cb d),false):=by
 have t:=t2 (ρ:=[some (d,false)]) (i:=0) h rfl;cases h2:ke d with
 |false=>
  rw[h2]at t;exact ar rfl (aL t (ao (by rw[lg h2];rfl)))
 |true=>
  rw[h2]at t;obtain⟨a,b,rfl⟩:=ge h2;have ha:=h.sub.2 a (by simp);have hb:=h.sub.2 b (by simp);exact ar rfl (ax t (ao (dq (b1:=false) (ae (ds:=[a,.int 0,.int 7]) (am (gf (n:=0) rfl rfl) rfl) (gc a 0 7 ha.ty)) λ_=>ae (ds:=[b]) (am (gf (n:=1) rfl rfl) rfl) (pc hb))))
def bv:D->Int
 |.tup (.int i::_)=>i
 |_=>0
noncomputable def sV:LI->Bool
 |a::b::l=>decide (a<b) && sV (b::l)
 |_=>true
theorem pW:∀l:LI,(l.zip (l.drop 1)).all (λx=>decide (x.1<x.2))=sV l
 |[]=>rfl
 |[_]=>rfl
 |a::b::l=>by
  have:=pW (b::l);rw[List.drop_succ_cons,drop_zero]at this;rw[List.drop_succ_cons,drop_zero,zip_cons_cons,all_cons,this];rfl
def de:D->Bool
 |.tup ds=>ds.all cb && sV (ds.map bv)
 |_=>false
theorem AB:∀a b:LI,jm (a.map .int) (b.map .int)=(a.zip b).map λx=>.tup [.int x.1,.int x.2]
 |[],_=>by simp[jm]
 |_::_,[]=>by simp[jm]
 |x::a,y::b=>by
  have:=AB a b;unfold jm at this ⊢;simp only[map_cons,List.zipWith_cons_cons,zip_cons_cons,this]
def iI (h:cb d=true):∃(i:Int)(b:D),d=.tup [.int i,b]/\bv d=i:=by
 have h2:ke d=true:=by
  cases h2:ke d with
  |true=>rfl
  |false=>rw[lg h2]at h;cases h
 obtain⟨a,b,rfl⟩:=ge h2;have ha:aw a 0 7=true:=by
  have:(aw a 0 7 && aH b)=true:=h;rw[vD]at this;exact this.1
 cases a<;>try (cases ha;done)
 exact⟨_,b,rfl,rfl⟩
def AD (l:LI):c8 (l.map D.int) (some 1) none=(l.drop 1).map .int:=by
 rw[mR];congr 1;unfold sM;rw[dZ (by decide)];have h1:(1:Int).toNat=1:=rfl;have h2:HT.cu l.length l.length none=l.length:=rfl;rw[h1,h2];cases l with
 |nil=>rfl
 |cons a l=>
  rw[Nat.min_eq_left (by simp)];rw[take_of_length_le (by simp)]
def o5 (h:Ok d):fK [d]=some (.bl (de d),false):=by
 cases h with
 |tup ds hl hs=>
  have M:fA iz (aa (bC (dO (ak 0)) 1 [] (dX 0) cO (fA dE (fV 0 ag))) ag) [some (.tup ds,false),none]=some (.bl (ds.all cb),false):=sU (p:=cb) rfl hl λd hd=>ae (ds:=[d]) rfl (qJ (hs d hd));have t:b7 (aN (aO (fA ap (fV 0 (aa (fC (.ty "tuple")) ag))))) (aN (aO (fA iz (aa (bC (dO (ak 0)) 1 [] (dX 0) cO (fA dE (fV 0 ag))) ag)))) [some (.tup ds,false),none]=some (!ds.all cb):=(aS (p:=false) (hZ (.tup ds hl hs) rfl) λ_=>bM (a9 M)).trans rfl;cases hb:ds.all cb with
  |false=>
   rw[hb]at t;refine ar rfl (aL t (ao ?_));simp only[de,hb,Bool.false_and];rfl
  |true=>
   rw[hb]at t;have hc:=uS hb;have O:bC (dO (ak 0)) 1 [] (dX 0) cO (be 0 0) [some (.tup ds,false),none]=some (.lst ((ds.map bv).map .int),true):=by
    rw[map_map];refine iT (tg:=dX 0) ds (λd=>d) (D.int ∘ bv) (by rw[map_id'];rfl) (by omega) λd hd=>?_;obtain⟨i,b,rfl,hp⟩:=iI (hc d hd);exact⟨_,rfl,false,gf (n:=0) rfl rfl⟩
   refine ar rfl (ax t (jN (ds:=(ds.map bv).map .int) O (fW _) (ao ?_)));generalize G:ds.map bv=ps;have T:ps.length<=1000:=by rw[←G,vI];exact hl
   have U:bC (uM (ak 1) (gF (ak 1) (bj (fI 1)) cP)) 2 [] (za [0,1]) cO (f2 p9 (ak 0) (ak 1)) [some (.tup ds,false),some (.lst (ps.map .int),true)]=some (.lst ((ps.zip (ps.drop 1)).map λx=>.bl (decide (x.1<x.2))),true):=by
    refine iT (tg:=za [0,1]) (ps.zip (ps.drop 1)) (λx=>.tup [.int x.1,.int x.2]) (λx=>.bl (decide (x.1<x.2))) ?_ (by simp;omega) λx _=>⟨[some (.int x.1,false),some (.int x.2,false)],rfl,false,rfl⟩;show some (jm (ps.map .int) (c8 (ps.map .int) (some 1) none))=_;rw[AD,AB]
   refine(ae (ds:=[.lst ((ps.zip (ps.drop 1)).map λx=>.bl (decide (x.1<x.2)))]) (am U rfl) (by simp only[iz,h6,map_some,all_map];rfl)).trans ?_;show some (D.bl ((ps.zip (ps.drop 1)).all λx=>decide (x.1<x.2)),false)=_;rw[pW];simp only[de,hb,G,Bool.true_and]
 |_=>exact ar rfl (aL ((aS (p:=true) (q:=true) rfl λz=>by cases z).trans rfl) (ao rfl))
def bx {c:FT}{g h:FS}{ρ:DL.Env}{x a b:Bool}(e:c ρ=some x)(G:g ρ=some (.rt (.bl a) false))(M:h ρ=some (.rt (.bl b) false)):ay (bU c g aA) h ρ=some (.rt (.bl (cond x a b)) false):=by
 cases x
 ·exact ax e M
 ·exact aL e G
def qK:D->Bool
 |.non=>true
 |_=>false
def o6 (h:Ok d):uD d .non=some (.bl (qK d),false):=by cases h<;>rfl
def lh (d:D):Bool:=qK d || aH d
def cx (p:Str)(v:D):Bool :=
 cond (decide (p=("day" : Str)) || decide (p=("since" : Str))) (aw v 0 9999) <|
 cond (decide (p=("office" : Str)) || (decide (p=("by" : Str)) || decide (p=("person" : Str)))) (aH v) <|
 cond (decide (p=("whom" : Str))) (lh v) <|
 cond (decide (p=("matters" : Str))) (aw v 1 255) <|
 cond (decide (p=("stretch" : Str))) (bI v) <|
 cond (decide (p=("further" : Str))) (aw v 0 9) <|
 cond (decide (p=("rule" : Str))) (ia v) <|
 cond (decide (p=("of" : Str))) (aw v 0 59) <|
 cond (decide (p=("pieces" : Str))) (dz v) (de v)
def cq {ρ:DL.Env}{p:Str}(q:Str)(e:ρ[0]? = some (some (.str p,false))):aO (f2 cB (ak 0) (fC (.str q))) ρ=some (decide (p=q)):=a9 (b:=false) (a7 (x:=.str p) (y:=.str q) (b1:=false) (b2:=false) (o0 e) rfl (yu _ _))
def AE (h:Ok v):dP [v]=some (.bl (bI v),false):=ot v h.ty λa b e=>by
 subst e;exact⟨(h.sub.2 a (by simp)).ty,(h.sub.2 b (by simp)).ty⟩
def va (p:Str)(h:Ok v):iE [.str p,v]=some (.bl (cx p v),false) :=
 ar rfl (bx (aS (cq _ rfl) λ_=>cq _ rfl) (ao (ae (ds:=[v]) rfl (iH v h.ty)))
 (bx (aS (cq _ rfl) λ_=>aS (cq _ rfl) λ_=>cq _ rfl) (ao (ae (ds:=[v]) rfl (nm h)))
 (bx (cq _ rfl) (ao (pO (p:=qK v) (b1:=false) (a7 (x:=v) (y:=.non) (b1:=false) (b2:=false) rfl rfl (o6 h)) λ_=>ae (ds:=[v]) rfl (nm h)))
 (bx (cq _ rfl) (ao (ae (ds:=[v]) rfl (oy v h.ty)))
 (bx (cq _ rfl) (ao (ae (ds:=[v]) rfl (AE h)))
 (bx (cq _ rfl) (ao (ae (ds:=[v,.int 0,.int 9]) rfl (gc v 0 9 h.ty)))
 (bx (cq _ rfl) (ao (ae (ds:=[v]) rfl (uZ h)))
 (bx (cq _ rfl) (ao (ae (ds:=[v,.int 0,.int 59]) rfl (gc v 0 59 h.ty)))
 (bx (cq _ rfl) (ao (ae (ds:=[v]) rfl (qI h))) (ao (ae (ds:=[v]) rfl (o5 h))))))))))))
def df:LS->LD->Bool
 |p::ps,d::ds=>cx p d && df ps ds
 |[],[]=>true
 |_,_=>false
theorem li:∀(ps:LS)(ds:LD),ps.length=ds.length->(ps.zip ds).all (λx=>cx x.1 x.2)=df ps ds
 |[],[],_=>rfl
 |[],_::_,h=>by cases h
 |_::_,[],h=>by cases h
 |p::ps,d::ds,h=>by
  rw[zip_cons_cons,all_cons,li ps ds (by simpa using h)];rfl
theorem iJ:∀(ps:LS)(ds:LD),ps.length≠ds.length->df ps ds=false
 |[],[],h=>absurd rfl h
 |[],_::_,_=>rfl
 |_::_,[],_=>rfl
 |p::ps,d::ds,h=>by
  show(_ && df ps ds)=false;rw[iJ ps ds (λe=>h (by simp[e])),Bool.and_false]
theorem nk:∀(G:LS)(aW:LD),jm (G.map .str) aW=(G.zip aW).map λx=>.tup [.str x.1,x.2]
 |[],_=>rfl
 |_::_,[]=>rfl
 |p::ps,d::ds=>by
  have:=nk ps ds;unfold jm at this ⊢;simp only[map_cons,List.zipWith_cons_cons,zip_cons_cons,this]
def AF (d:D)(r:LD):c8 (d::r) (some 1) none=r:=by
 unfold c8;have G:HT.cu (d::r).length 0 (some 1)=1:=by rw[dZ (by decide)];show min 1 _=1;simp
 have M:HT.cu (d::r).length (d::r).length none=(d::r).length:=rfl;rw[G,M];simp
section
variable {w:Str}{aW:LD}(h:Ok (.tup (.str w::aW)))
include h
theorem gq {G:LS}(hp:gH bd (.str w)=some (.tup (G.map .str),false))(h9:G.length<=100):cV [.tup (.str w::aW)]=some (.bl (df G aW),false):=by
 have hl:=h.sub.1;have T:be 0 0 [some (.tup (.str w::aW),false)]=some (.str w,false):=gf (n:=0) rfl rfl;have U:f1 (gH bd) (be 0 0) [some (.tup (.str w::aW),false)]=some (.tup (G.map .str),false):=by unfold f1;rw[T];exact hp
 have O:∃d,bd.lookup w=some d:=by
  cases hq:bd.lookup w with
  |none=>simp only[gH,hq,Option.map_none]at hp;cases hp
  |some d=>exact⟨d,rfl⟩
 obtain⟨dd,O⟩:=O;have t1:b7 (aN (aO (fA ap (fV 0 (aa (fC (.ty "tuple")) ag))))) (b7 (aO (f2 cB (fA bp (fV 0 ag)) (fI 0))) (aN (aO (fA ap (aa (be 0 0) (aa (fC (.ty "str")) ag)))))) [some (.tup (.str w::aW),false)]=some false:=by
  refine(aS (p:=false) (q:=false) (hZ h rfl) λ_=>(aS (p:=false) (q:=false) (a9 (b:=false) (a7 (x:=.int ((.str w::aW:LD).length:Int)) (y:=.int 0) (b1:=false) (b2:=false) (ae (ds:=[.tup (.str w::aW)]) rfl rfl) rfl ?_)) λ_=>(bM (p:=true) (a9 (b:=false) (ae (ds:=[.str w,.ty "str"]) (am T rfl) rfl)))).trans rfl).trans rfl;rw[qT,decide_eq_false];rw[vE];omega
 have t2:b7 (aO (f1 (jG bd) (be 0 0))) (aO (f2 jl (fA bp (fV 0 ag)) (f2 bG (fI 1) (fA bp (aa (f1 (gH bd) (be 0 0)) ag))))) [some (.tup (.str w::aW),false)]=some (!decide (G.length=aW.length)):=by
  refine(aS (p:=false) (a9 (b:=false) ?_) λ_=>a9 (b:=false) (a7 (x:=.int ((.str w::aW:LD).length:Int)) (y:=.int (1+(G.length:Int))) (b1:=false) (b2:=false) (ae (ds:=[.tup (.str w::aW)]) rfl rfl) (a7 (x:=.int 1) (y:=.int (G.length:Int)) (b1:=false) (b2:=false) rfl (ae (ds:=[.tup (G.map .str)]) (am U rfl) (by simp)) rfl) (Cq _ _))).trans ?_
  ·unfold f1;rw[T];show some (D.bl (!(bd.lookup w).isSome),false)=_;rw[O];rfl
  ·rw[Bool.false_or];congr 2;rw[vE];exact decide_eq_decide.mpr (by omega)
 by_cases M:G.length=aW.length
 ·rw[decide_eq_true M]at t2;refine ar rfl (ax t1 (ax t2 (ao ((ae (ds:=[.lst ((G.zip aW).map λx=>.bl (cx x.1 x.2))]) (am (b:=true) (iT (tg:=za [0,1]) (G.zip aW) (λx=>.tup [.str x.1,x.2]) (λx=>.bl (cx x.1 x.2)) ?_ (by rw[List.length_zip];omega) λx hx=>⟨[some (.str x.1,false),some (x.2,false)],rfl,false,ae (ds:=[.str x.1,x.2]) rfl (va x.1 (h.sub.2 _ (mZ _ (of_mem_zip hx).2)))⟩) rfl) (by simp only[iz,h6,map_some,all_map];rfl)).trans ?_))))
  ·show(f1 (gH bd) (be 0 0) [some (.tup (.str w::aW),false)]).bind _=_;rw[U];show some (jm (G.map .str) (c8 (.str w::aW) (some 1) none))=_;rw[AF,nk]
  ·rw[←li G aW M];rfl
 ·rw[decide_eq_false M]at t2;refine ar rfl (ax t1 (aL t2 (ao ?_)));rw[iJ G aW M];rfl
theorem nl (hp:bd.lookup w=none):cV [.tup (.str w::aW)]=some (.bl false,false):=by
 have hl:=h.sub.1;have G:be 0 0 [some (.tup (.str w::aW),false)]=some (.str w,false):=gf (n:=0) rfl rfl;have M:b7 (aN (aO (fA ap (fV 0 (aa (fC (.ty "tuple")) ag))))) (b7 (aO (f2 cB (fA bp (fV 0 ag)) (fI 0))) (aN (aO (fA ap (aa (be 0 0) (aa (fC (.ty "str")) ag)))))) [some (.tup (.str w::aW),false)]=some false:=by
  refine(aS (p:=false) (q:=false) (hZ h rfl) λ_=>(aS (p:=false) (q:=false) (a9 (b:=false) (a7 (x:=.int ((.str w::aW:LD).length:Int)) (y:=.int 0) (b1:=false) (b2:=false) (ae (ds:=[.tup (.str w::aW)]) rfl rfl) rfl ?_)) λ_=>(bM (p:=true) (a9 (b:=false) (ae (ds:=[.str w,.ty "str"]) (am G rfl) rfl)))).trans rfl).trans rfl;rw[qT,decide_eq_false];rw[vE];omega
 refine ar rfl (ax M (aL ((aS (p:=true) (q:=true) (a9 (b:=false) ?_) λz=>by cases z).trans rfl) (ao rfl)));show(be 0 0 [some (.tup (.str w::aW),false)]).bind _=_;rw[G];show some (D.bl (!(bd.lookup w).isSome),false)=_;rw[hp];rfl
end
def o7:D->Bool
 |.tup (.str _::_)=>false
 |_=>true
def vb (h:Ok d)(hn:o7 d=true):cV [d]=some (.bl false,false):=by
 cases h with
 |tup ds hl hs=>
  refine ar rfl (aL ?_ (ao rfl));cases ds with
  |nil=>exact(aS (p:=false) (q:=true) (hZ (.tup [] hl hs) rfl) λ_=>(aS (p:=true) (q:=true) (a9 (b:=false) (a7 (x:=.int 0) (y:=.int 0) (b1:=false) (b2:=false) rfl rfl (by rw[qT,decide_eq_true rfl]))) λz=>by cases z).trans rfl).trans rfl
  |cons a r=>
   have ha:=hs a (by simp);have G:lf a=false:=by cases a<;>first|rfl|cases hn
   refine(aS (p:=false) (q:=true) (hZ (.tup (a::r) hl hs) rfl) λ_=>(aS (p:=false) (q:=true) (a9 (b:=false) (a7 (x:=.int ((a::r).length:Int)) (y:=.int 0) (b1:=false) (b2:=false) (ae (ds:=[.tup (a::r)]) rfl rfl) rfl ?_)) λ_=>(bM (p:=false) (a9 (b:=false) (ae (ds:=[a,.ty "str"]) (am (gf (n:=0) rfl rfl) rfl) ((pV ha).trans (by rw[G])))))).trans rfl).trans rfl;rw[qT,decide_eq_false];rw[vE];omega
 |_=>exact ar rfl (aL ((aS (p:=true) (q:=true) rfl λz=>by cases z).trans rfl) (ao rfl))
def ib (hd:D)(w:Str)(aW:LD):dU [.tup [hd,.tup (.str w::aW)]]=some (.str w,false):=ar rfl (ao (a7 (x:=.tup (.str w::aW)) (y:=.int 0) (b1:=false) (b2:=false) (gf (n:=1) rfl rfl) rfl (show(iQ (.str w::aW) ((0:Nat):Int)).map _=_ by rw[yw (n:=0) rfl];rfl)))
def w5 {hd:D}{w:Str}{aW:LD}{part:Str}{i:Nat}{d:D}(hi:jn bd (.str w) (.str part)=some (.int i,false))(he:aW[i]? = some d):ft [.tup [hd,.tup (.str w::aW)],.str part]=some (d,false):=by
 refine ar rfl (ao (a7 (x:=.tup (.str w::aW)) (y:=.int (1+(i:Int))) (b1:=false) (b2:=false) (gf (n:=1) rfl rfl) (a7 (x:=.int 1) (y:=.int i) (b1:=false) (b2:=false) rfl (a7 (x:=.str w) (y:=.str part) (b1:=false) (b2:=false) (ae (ds:=[.tup [hd,.tup (.str w::aW)]]) rfl (ib _ _ _)) rfl hi) rfl) ?_));show(iQ (.str w::aW) (1+(i:Int))).map _=_;rw[show 1+(i:Int)=((i+1:Nat):Int) by omega,yw (n:=i+1) he];rfl
def np (hd:D)(aW:LD):dF [.tup [hd,.tup (.str "root" :: aW)]]=some (.bl true,false) :=
 ar rfl (bu (d:=.non) (b:=false) (ae (ds:=[.tup [hd,.tup (.str "root" :: aW)]]) rfl (ar rfl (aL (a9 (b:=false) (a7 (x:=.str "root") (y:=.str "root") (b1:=false) (b2:=false) (ae (ds:=[.tup [hd,.tup (.str "root" :: aW)]]) rfl (ib _ _ _)) rfl (by rw[yu,decide_eq_true rfl]))) (ao rfl)))) rfl (aL (a9 (b:=false) rfl) (ao rfl)))
def lj {h day:Int}{w:Str}{r:LD}(hw:w≠("root" : Str))(hi:jn bd (.str w) (.str "day")=some (.int (0:Nat),false))(x:Bool)(hx:gR (aO (f2 cB (fA dU (fV 0 ag)) (fS "chosen"))) (aO (f2 p9 (fA ft (fV 0 (aa (fS "since") ag))) (ak 1))) [some (.tup [.int h,.tup (.str w::.int day::r)],false),some (.int day,false)]=some x):dF [.tup [.int h,.tup (.str w::.int day::r)]]=some (.bl (!x && decide (day<=h)),false):=by
 refine ar rfl (bu (d:=.int day) (b:=false) (ae (ds:=[.tup [.int h,.tup (.str w::.int day::r)]]) rfl (ar rfl (ax (a9 (b:=false) (a7 (x:=.str w) (y:=.str "root") (b1:=false) (b2:=false) (ae (ds:=[.tup [.int h,.tup (.str w::.int day::r)]]) rfl (ib _ _ _)) rfl (by rw[yu,decide_eq_false hw]))) (ao (ae (ds:=[.tup [.int h,.tup (.str w::.int day::r)],.str "day"]) rfl (w5 hi rfl)))))) rfl (ax (a9 (b:=false) rfl) ?_));cases x with
 |true=>exact aL hx (ao rfl)
 |false=>exact ax hx (ao ((a7 (x:=.int day) (y:=.int h) (b1:=false) (b2:=false) rfl (gf (n:=0) rfl rfl) rfl).trans rfl))
def ww (lo hi:Int)(h:Ok d):bg [d,.int lo,.int hi]=some (.bl (aw d lo hi),false):=qG d lo hi h.ty
def dr {lo hi:Int}(h:aw d lo hi=true):∃i,d=.int i/\lo<=i/\i<=hi:=by
 cases d<;>try (cases h;done)
 rename_i i;rw[bE,vD]at h;exact⟨i,rfl,of_decide_eq_true h.1,of_decide_eq_true h.2⟩
def o8 (h:ke d=false):bI d=false:=by
 match d,h with
 |.tup [],_=>rfl
 |.tup [_],_=>rfl
 |.tup (_::_::_::_),_=>rfl
 |.non,_=>rfl
 |.bl _,_=>rfl
 |.int _,_=>rfl
 |.str _,_=>rfl
 |.ty _,_=>rfl
 |.lst _,_=>rfl
 |.dk _ _,_=>rfl
 |.dt _ _,_=>rfl
def yx (h:Ok d):et [d]=some (.bl (bI d),false):=by
 have t:=Cr (ρ:=[some (d,false)]) (i:=0) (c:=aN (aO (fA bg (aa (be 0 0) (aa (fI 0) (aa (fI 9999) ag)))))) (p:=match d with|.tup (a::_)=>!aw a 0 9999|_=>false) h rfl λz=>by
  obtain⟨a,b,rfl⟩:=ge z;exact bM (a9 (b:=false) (ae (ds:=[a,.int 0,.int 9999]) (am (gf (n:=0) rfl rfl) rfl) (ww 0 9999 (h.sub.2 a (by simp)))))
 cases h2:ke d with
 |false=>
  rw[h2]at t;exact ar rfl (aL t (ao (by rw[o8 h2];rfl)))
 |true=>
  obtain⟨a,b,rfl⟩:=ge h2;have hb:=h.sub.2 b (by simp);cases hw:aw a 0 9999 with
  |false=>
   have t':=t.trans (show _=some true by show some (!true || !aw a 0 9999)=_;rw[hw];rfl);refine ar rfl (aL t' (ao ?_));show some (D.bl false,false)=some (D.bl (aw a 0 9999 && _),false);rw[hw,Bool.false_and]
  |true=>
   have t':=t.trans (show _=some false by show some (!true || !aw a 0 9999)=_;rw[hw];rfl);obtain⟨i,rfl,h0,G⟩:=dr hw;refine ar rfl (ax t' (ao ((pO (p:=qK b) (q:=aw b (i+1) 9999) (b1:=false) (a7 (x:=b) (y:=.non) (b1:=false) (b2:=false) (gf (n:=1) rfl rfl) rfl (o6 hb)) λ_=>ae (ds:=[b,.int (i+1),.int 9999]) (am (gf (n:=1) rfl rfl) (am (b:=false) (a7 (x:=.int i) (y:=.int 1) (b1:=false) (b2:=false) (gf (n:=0) rfl rfl) rfl rfl) rfl)) (ww _ _ hb)).trans ?_)));show some (D.bl (qK b || aw b (i+1) 9999),false)=some (D.bl (aw (.int i) 0 9999 && _),false);rw[hw,Bool.true_and];cases b with
   |non=>rfl
   |int j=>
    show some (D.bl (false || (decide (i+1<=j) && decide (j<=9999))),false)=some (D.bl ((decide (0<=j) && decide (j<=9999)) && decide (i<j)),false);rw[Bool.false_or];congr 3;by_cases h1:i<j
    ·rw[decide_eq_true h1,decide_eq_true (show i+1<=j by omega),decide_eq_true (show 0<=j by omega),Bool.and_true,Bool.true_and]
    ·rw[decide_eq_false h1,decide_eq_false (show ¬i+1<=j by omega),Bool.and_false,Bool.false_and]
   |_=>rfl
def p0:D->D
 |.tup (a::_)=>a
 |_=>.non
def p1:D->D
 |.tup (_::b::_)=>b
 |_=>.non
def o9 (lo:Int):LD->Bool
 |[]=>true
 |d::ds=>(ke d && (aw (p0 d) lo 7 && aH (p1 d))) && o9 (bv d+1) ds
theorem AG (G:D):∀(ds:LD)(lo:Int)(M:OB),(∀d∈ds,Ok d)->match o9 lo ds with
  |true=>∃T w2,dn (dX 2) aZ ds [some (G,false),some (.int lo,false),M]=some (.nx [some (G,false),some (.int T,false),w2])
  |false=>dn (dX 2) aZ ds [some (G,false),some (.int lo,false),M]=some (.rt (.bl false) false)
 |[],lo,M,_=>⟨lo,M,rfl⟩
 |d::ds,lo,M,hs=>by
  have h:=hs d mX;let ρ:DL.Env:=[some (G,false),some (.int lo,false),some (d,false)];have U:dn (dX 2) aZ (d::ds) [some (G,false),some (.int lo,false),M]=match aZ ρ with
    |some (.nx ρ')=>dn (dX 2) aZ ds ρ'
    |some (.ct ρ')=>dn (dX 2) aZ ds ρ'
    |some (.bk ρ')=>some (.nx ρ')
    |r=>r:=by
   rw[kF];show((some ρ).bind _)=_;first|(rw[vJ];done)|(rw[vJ];rfl)
  have t:=t2 (ρ:=ρ) (i:=2) h rfl;cases h2:ke d with
  |false=>
   have hc:o9 lo (d::ds)=false:=by
    show((ke d && _) && _)=false;rw[h2];rfl
   rw[h2]at t;rw[hc];show dn _ _ _ _=_;rw[U,show aZ ρ=some (.rt (.bl false) false)from aL t (ao rfl)]
  |true=>
   rw[h2]at t;obtain⟨a,b,rfl⟩:=ge h2;have ha:=h.sub.2 a (by simp);have hb:=h.sub.2 b (by simp);have O:b7 (aN (aO (fA bg (aa (be 2 0) (fV 1 (aa (fI 7) ag)))))) (aN (aO (fA cw (aa (be 2 1) ag)))) ρ=some (!(aw a lo 7 && aH b)):=(aS (bM (a9 (b:=false) (ae (ds:=[a,.int lo,.int 7]) (am (gf (n:=0) rfl rfl) rfl) (ww lo 7 ha)))) λ_=>bM (a9 (b:=false) (ae (ds:=[b]) (am (gf (n:=1) rfl rfl) rfl) (B5 hb)))).trans (by rw[Bool.not_and]);cases hx:(aw a lo 7 && aH b) with
   |false=>
    have hc:o9 lo (.tup [a,b]::ds)=false:=by
     show((aw a lo 7 && aH b) && _)=false;rw[hx,Bool.false_and]
    rw[hx]at O;rw[hc];show dn _ _ _ _=_;rw[U,show aZ ρ=some (.rt (.bl false) false)from ax t (aL O (ao rfl))]
   |true=>
    rw[hx]at O;obtain⟨i,rfl,_,_⟩:=dr (vD _ _ ▸ hx).1;have hc:o9 lo (.tup [.int i,b]::ds)=o9 (i+1) ds:=by
     show((aw (.int i) lo 7 && aH b) && o9 (i+1) ds)=_;rw[hx,Bool.true_and]
    have k:=AG G ds (i+1) (some (.tup [.int i,b],false)) λd hd=>hs d (mZ _ hd);have e:aZ ρ=some (.nx [some (G,false),some (.int (i+1),false),some (.tup [.int i,b],false)]):=ax t (ax O (eY (d:=.int (i+1)) (b:=false) (a7 (x:=.int i) (y:=.int 1) (b1:=false) (b2:=false) (gf (n:=0) rfl rfl) rfl rfl) rfl));rw[hc,U,e];exact k
def ll:D->Bool
 |.tup ds=>o9 0 ds
 |_=>false
def nq (h:Ok d):eA [d]=some (.bl (ll d),false):=by
 cases h with
 |tup ds hl hs=>
  have k:=AG (.tup ds) ds 0 none hs;have t:=hZ (ρ:=[some (.tup ds,false),none,none]) (i:=0) (Ok.tup ds hl hs) rfl;show _=some (D.bl (o9 0 ds),false);cases hc:o9 0 ds with
  |true=>
   rw[hc]at k;obtain⟨G,M,k⟩:=k;exact ar rfl (ax t (bu (d:=.int 0) (b:=false) rfl rfl (dj (pN (ds:=ds) rfl k) (ao rfl))))
  |false=>
   rw[hc]at k;refine ar rfl (ax t (bu (d:=.int 0) (b:=false) rfl rfl (uT ?_)));show(match dO (ak 0) (dI [some (.tup ds,false),some (.int 0,false),none]) with|some l=>dn (dX 2) aZ l _|none=>none)=_;exact k
 |_=>exact ar rfl (aL rfl (ao rfl))
theorem sW:∀(ds:LD)(lo:Int),0<=lo->o9 lo ds=(ds.all cb && (sV (ds.map bv) && match ds with|[]=>true|d::_=>decide (lo<=bv d)))
 |[],_,_=>rfl
 |d::ds,lo,h0=>by
  by_cases hc:∃i b,d=.tup [.int i,b]
  ·obtain⟨i,b,rfl⟩:=hc;have hp:bv (.tup [.int i,b])=i:=rfl;have M:o9 lo (.tup [.int i,b]::ds)=(((decide (lo<=i) && decide (i<=7)) && aH b) && o9 (i+1) ds):=rfl;have O:cb (.tup [.int i,b])=((decide (0<=i) && decide (i<=7)) && aH b):=rfl;rw[M,all_cons,O];dsimp only;rw[hp];by_cases G:lo<=i
   ·have T:0<=i:=by omega
    rw[decide_eq_true G,decide_eq_true T,sW ds (i+1) (by omega)];cases ds with
    |nil=>
     show(((true && decide (i<=7)) && aH b) && true)=((((true && decide (i<=7)) && aH b) && true) && (true && true));simp
    |cons d' l=>
     have U:sV ((.tup [.int i,b]::d'::l).map bv)=(decide (i<bv d') && sV ((d'::l).map bv)):=rfl;rw[U];have e4:decide (i+1<=bv d')=decide (i<bv d'):=decide_eq_decide.mpr (by omega);dsimp only;rw[e4];generalize decide (i<=7)=x1;generalize aH b=x2;generalize List.all (d'::l) cb=x3;generalize sV ((d'::l).map bv)=x4;generalize decide (i<bv d')=x5;cases x1<;>cases x2<;>cases x3<;>cases x4<;>cases x5<;>rfl
   ·rw[decide_eq_false G];simp
  ·have M:o9 lo (d::ds)=false:=by
    cases h2:ke d with
    |false=>
     show((ke d && _) && _)=false;rw[h2];rfl
    |true=>
     obtain⟨a,b,rfl⟩:=ge h2;show((aw a lo 7 && aH b) && _)=false;cases a<;>try rfl
     rename_i i;exact absurd ⟨i,b,rfl⟩ hc
   have O:cb d=false:=by
    cases h:cb d with
    |false=>rfl
    |true=>obtain⟨i,b,e,_⟩:=iI h;exact absurd ⟨i,b,e⟩ hc
   rw[M,all_cons,O,Bool.false_and,Bool.false_and]
theorem Cs:∀ds:LD,ds.all cb=true->(match ds with|[]=>true|d::_=>decide ((0:Int)<=bv d))=true
 |[],_=>rfl
 |d::ds,h=>by
  rw[all_cons,vD]at h;obtain⟨i,b,rfl,hp⟩:=iI h.1;have h1:((decide (0<=i) && decide (i<=7)) && aH b)=true:=h.1;rw[vD,vD]at h1;exact h1.1.1
def yy (d:D):ll d=de d:=by
 cases d<;>try rfl
 rename_i ds;show o9 0 ds=(ds.all cb && sV (ds.map bv));rw[sW ds 0 (by decide)];cases h:ds.all cb with
 |false=>rfl
 |true=>rw[Cs ds h,Bool.and_true]
def vc {ds:LD}{p:D->Bool}{c:FT}{ρ:DL.Env}{i:Nat}{b:Bool}(e:ρ[i]? = some (some (.tup ds,b)))(hl:ds.length<=1000)(k:∀d∈ds,c [some (d,false)]=some (!p d)):f2 cB (fA bp (aa (bC (dO (ak i)) 1 [] (dX 0) c (ak 0)) ag)) (fI 0) ρ=some (.bl (ds.all p),false):=by
 refine a7 (x:=.int (((ds.filter λx=>!p x).map λd=>d).length:Int)) (y:=.int 0) (b1:=false) (b2:=false) (ae (ds:=[.lst ((ds.filter λx=>!p x).map λd=>d)]) (am (b:=true) (pQ (tg:=dX 0) ds (λd=>d) (λd=>!p d) (λd=>d) ?_ (by omega) λd hd=>⟨_,rfl,k d hd,λ_=>⟨false,rfl⟩⟩) rfl) rfl) rfl ((qT _ _).trans ?_)
 ·show(ak i ρ).bind _=_;rw[o0 e,map_id'];rfl
 ·rw[jP]
def oB (h:Ok d):eN [d]=some (.bl (dz d),false):=by
 cases h with
 |tup ds hl hs=>
  have t:b7 (aN (aO (fA ap (fV 0 (aa (fC (.ty "tuple")) ag))))) (b7 (aO (f2 cB (fA bp (fV 0 ag)) (fI 0))) (aO (f2 rQ (fA bp (fV 0 ag)) (fI 8)))) [some (.tup ds,false)]=some (!(decide (1<=ds.length) && decide (ds.length<=8))):=by
   rw[Bool.not_and];refine aS (p:=false) (hZ (.tup ds hl hs) rfl) λ_=>aS (a9 (b:=false) (a7 (x:=.int (ds.length:Int)) (y:=.int 0) (b1:=false) (b2:=false) (ae (ds:=[.tup ds]) rfl rfl) rfl ((qT _ _).trans ?_))) λ_=>a9 (b:=false) (a7 (x:=.int (ds.length:Int)) (y:=.int 8) (b1:=false) (b2:=false) (ae (ds:=[.tup ds]) rfl rfl) rfl ?_)
   ·rw[←decide_not];congr 3;exact decide_eq_decide.mpr (by omega)
   ·show some (D.bl (decide ((8:Int)<(ds.length:Int))),false)=_;rw[←decide_not];congr 3;exact decide_eq_decide.mpr (by omega)
  cases hb:(decide (1<=ds.length) && decide (ds.length<=8)) with
  |true=>
   rw[hb]at t;refine ar rfl (ax t (ao ((vc (p:=aH) rfl hl λd hd=>bM (a9 (b:=false) (ae (ds:=[d]) rfl (B5 (hs d hd))))).trans ?_)));simp only[dz,hb,Bool.true_and]
  |false=>
   rw[hb]at t;refine ar rfl (aL t (ao ?_));simp only[dz,hb,Bool.false_and];rfl
 |_=>exact ar rfl (aL ((aS (p:=true) (q:=true) rfl λz=>by cases z).trans rfl) (ao rfl))
def aP (s:Str)(v:D)(day:Int):Bool :=
 cond (decide (s=("n" : Str))) (aH v) <|
 cond (decide (s=("w" : Str))) (lh v) <|
 cond (decide (s=("m" : Str))) (aw v 1 255) <|
 cond (decide (s=("f" : Str))) (aw v 0 9) <|
 cond (decide (s=("o" : Str))) (aw v 0 59) <|
 cond (decide (s=("s" : Str))) (bI v) <|
 cond (decide (s=("d" : Str))) (aw v day 9999) <|
 cond (decide (s=("c" : Str))) (de v) <|
 cond (decide (s=("p" : Str))) (dz v) (decide (s=("r" : Str)) && ia v)
def vd (s:Str)(day:Int)(h:Ok v):hV [.str s,v,.int day]=some (.bl (aP s v day),false):=by
 refine ar rfl (bx (cq _ rfl) (ao (ae (ds:=[v]) rfl (B5 h)))
  (bx (cq _ rfl) (ao (pO (p:=qK v) (b1:=false) (a7 (x:=v) (y:=.non) (b1:=false) (b2:=false) rfl rfl (o6 h)) λ_=>ae (ds:=[v]) rfl (B5 h)))
  (bx (cq _ rfl) (ao (ae (ds:=[v,.int 1,.int 255]) rfl (ww 1 255 h)))
  (bx (cq _ rfl) (ao (ae (ds:=[v,.int 0,.int 9]) rfl (ww 0 9 h)))
  (bx (cq _ rfl) (ao (ae (ds:=[v,.int 0,.int 59]) rfl (ww 0 59 h)))
  (bx (cq _ rfl) (ao (ae (ds:=[v]) rfl (yx h)))
  (bx (cq _ rfl) (ao (ae (ds:=[v,.int day,.int 9999]) rfl (ww day 9999 h)))
  (bx (cq _ rfl) (ao ((ae (ds:=[v]) rfl (nq h)).trans (by rw[yy])))
  (bx (cq _ rfl) (ao (ae (ds:=[v]) rfl (oB h))) (ao (dq (b1:=false) (a7 (x:=.str s) (y:=.str "r") (b1:=false) (b2:=false) rfl rfl (yu _ _)) λ_=>(dq (p:=lf v) (q:=ia v) (b1:=false) (ae (ds:=[v,.ty "str"]) rfl (pV h)) λz=>?_).trans ?_)))))))))))
 ·obtain⟨w,rfl⟩:=sT z;exact a7 (x:=.str w) (y:=.tup (eO.map .str)) (b1:=false) (b2:=false) rfl (ae (ds:=eO.map .str) rfl (by simp[eO,sizeLine])) (nj w)
 ·cases v<;>rfl
def fu (day:Int):LN->LD->Bool
 |c::cs,d::ds=>aP ⟨#[c]⟩ d day && fu day cs ds
 |[],[]=>true
 |_,_=>false
theorem lN (day:Int):∀(cs:LN)(ds:LD),cs.length≠ds.length->fu day cs ds=false
 |[],[],h=>absurd rfl h
 |[],_::_,_=>rfl
 |_::_,[],_=>rfl
 |c::cs,d::ds,h=>by
  show(_ && fu day cs ds)=false;rw[lN day cs ds (λe=>h (by simp[e])),Bool.and_false]
theorem lm (day:Int):∀(cs:LN)(ds:LD),cs.length=ds.length->(List.range ds.length).all (λk=>aP ⟨#[cs.getD k 0]⟩ (ds.getD k .non) day)=fu day cs ds
 |[],[],_=>rfl
 |[],_::_,h=>by cases h
 |_::_,[],h=>by cases h
 |c::cs,d::ds,h=>by
  rw[vE,List.range_succ_eq_map,all_cons,all_map];show(_ && _)=(_ && fu day cs ds);rw[←lm day cs ds (by simpa using h)];rfl
noncomputable def jo (w:Str):D:=(fT [.inr ("named" : Str),.inr ("chosen" : Str),.inr ("heir" : Str),.inr ("death" : Str),.inr ("lost" : Str),.inr ("found" : Str),.inr ("leave" : Str)] [.str "nn",.str "nnnd",.str "nnn",.str "n",.str "n",.str "n",.str "nnmsf"] (.inr w:dh)).getD
 ((fT [.inr ("paper" : Str),.inr ("like" : Str),.inr ("copy" : Str),.inr ("call" : Str)] [.str "nmswp",.str "nmswoc",.str "no",.str "no"] (.inr w:dh)).getD (.str ("-" : PySem.Str)))
def sX {G:List (Str×FE)}{i:Nat}{h:FS}{r:Option Res}{ρ:DL.Env}{zs:LS}(e:jH G ρ=some zs)(hp:(G.map (·.1)).Nodup/\G.length<=15)(k:h (ρ.set i (some (.dk (G.map λq=>.inr q.1) (zs.map .str),true)))=r):ay (kK i G) h ρ=r:=dj (by unfold kK;rw[e,vJ,if_pos hp]) k
def sY (w:Str):iG [.str w]=some (jo w,false) :=
 ar rfl (sX (zs:=[("nn" : Str),("nnnd" : Str),("nnn" : Str),("n" : Str),("n" : Str),("n" : Str),("nnmsf" : Str)]) rfl ⟨by decide +kernel,by decide⟩ (sX (zs:=[("nmswp" : Str),("nmswoc" : Str),("no" : Str),("no" : Str)]) rfl ⟨by decide +kernel,by decide⟩ (ao rfl)))
def w6:FS:=(ay (bU (aO (f2 jl (fA bp (fV 3 ag)) (fA bp (fV 2 ag)))) (aD (fC (.bl false))) aA)
  (aD (f2 cB (fA bp (aa (bC (dL (fA bp (fV 3 ag))) 1 [4,2,3] (dX 0) (aN (aO (fA hV (aa (f2 da (ak 2) (ak 0)) (aa (f2 da (ak 3) (ak 0)) (fV 1 ag)))))) (ak 0)) ag)) (fI 0))))
def Ct {z:Str}{k:Nat}(h:k<z.cps.toList.length)(hz:z.length<=1000):da (.str z) (.int (k:Int))=some (.str ⟨#[z.cps.toList.getD k 0]⟩,false):=by
 have:=lw (z:=z) (i:=(k:Int)) (by omega) (by simpa using h) (by omega);rw[Int.toNat_natCast]at this;exact this
def pX (G M:D)(z:Str)(ds:LD)(day:Int)(hz:z.length<=1000)(hl:ds.length<=1000)(hs:∀d∈ds,Ok d):w6 [some (G,false),some (M,false),some (.str z,false),some (.tup ds,false),some (.int day,false)]=some (.rt (.bl (fu day z.cps.toList ds)) false):=by
 have tK:z.cps.toList.length=z.length:=hW z;have U:fA bp (fV 3 ag) [some (G,false),some (M,false),some (.str z,false),some (.tup ds,false),some (.int day,false)]=some (.int (ds.length:Int),false):=ae (ds:=[.tup ds]) rfl rfl;have t:aO (f2 jl (fA bp (fV 3 ag)) (fA bp (fV 2 ag))) [some (G,false),some (M,false),some (.str z,false),some (.tup ds,false),some (.int day,false)]=some (!decide (z.cps.toList.length=ds.length)):=by
  refine a9 (b:=false) (a7 (x:=.int (ds.length:Int)) (y:=.int (z.length:Int)) (b1:=false) (b2:=false) U (ae (ds:=[.str z]) rfl ?_) ?_)
  ·show(if z.length<=sizeLine then _ else _)=_;rw[if_pos (cy (by omega))]
  ·rw[Cq,tK];congr 4;exact decide_eq_decide.mpr (by omega)
 by_cases O:z.cps.toList.length=ds.length
 ·rw[decide_eq_true O]at t;refine ax t (ao ?_);refine a7 (x:=.int ((((List.range ds.length).filter λk=>!aP ⟨#[z.cps.toList.getD k 0]⟩ (ds.getD k .non) day).map λ(k:Nat)=>D.int (k:Int)).length:Int)) (y:=.int 0) (b1:=false) (b2:=false) (ae (ds:=[.lst (((List.range ds.length).filter λk=>!aP ⟨#[z.cps.toList.getD k 0]⟩ (ds.getD k .non) day).map λ(k:Nat)=>D.int (k:Int))]) (am (b:=true) (pQ (tg:=dX 0) (List.range ds.length) (λ(k:Nat)=>.int (k:Int)) (λk=>!aP ⟨#[z.cps.toList.getD k 0]⟩ (ds.getD k .non) day) (λ(k:Nat)=>.int (k:Int)) ?_ (by simp;omega) λk hk=>?_) rfl) rfl) rfl ((qT _ _).trans ?_)
  ·refine(eZ (j:=ds.length) (b:=false) U (by omega)).trans ?_;rw[kN,map_map];rfl
  ·have T:k<ds.length:=mem_range.mp hk;have hd:ds[k]? = some (ds.getD k .non):=by rw[List.getD_eq_getElem?_getD,getElem?_eq_getElem T];rfl
   refine⟨[some (.int (k:Int),false),some (.int day,false),some (.str z,false),some (.tup ds,false)],rfl,bM (a9 (b:=false) (ae (ds:=[.str ⟨#[z.cps.toList.getD k 0]⟩,ds.getD k .non,.int day]) (am (b:=false) (a7 (x:=.str z) (y:=.int (k:Int)) (b1:=false) (b2:=false) rfl rfl (Ct (by omega) hz)) (am (b:=false) (a7 (x:=.tup ds) (y:=.int (k:Int)) (b1:=false) (b2:=false) rfl rfl (show(iQ ds (k:Int)).map _=_ by rw[yw hd];rfl)) rfl)) (vd _ day (hs _ (mem_of_getElem? hd))))),λ_=>⟨false,rfl⟩⟩
  ·rw[jP,lm day _ ds O]
 ·rw[decide_eq_false O]at t;refine aL t (ao ?_);rw[lN day _ ds O];rfl
def Cu (a b:D)(r:LD):c8 (a::b::r) (some 2) none=r:=by
 unfold c8;have G:HT.cu (a::b::r).length 0 (some 2)=2:=by rw[dZ (by decide)];show min 2 _=2;simp
 have M:HT.cu (a::b::r).length (a::b::r).length none=(a::b::r).length:=rfl;rw[G,M];simp
def gt (h:Int)(w z:Str)(a:D)(r:LD):Bool:=cond (decide (w=("root" : Str))) (fu 0 ("nmfr" : Str).cps.toList (a::r)) (match a with
 |.int day=>(decide (0<=day) && decide (day<=h)) && fu day z.cps.toList r
 |_=>false)
def sZ:("nmfr" : Str).length<=1000:=by decide +kernel
def AH (h:Ok d):(ke d=false->cI [d]=some (.bl false,false))/\∀hd G,d=.tup [hd,G]->aw hd 0 9999=false->cI [d]=some (.bl false,false):=by
 have t:=Cr (ρ:=[some (d,false),none,none,none,none]) (i:=0) (c:=aN (aO (fA bg (aa (be 0 0) (aa (fI 0) (aa (fI 9999) ag)))))) (p:=match d with|.tup (a::_)=>!aw a 0 9999|_=>false) h rfl λz=>by
  obtain⟨a,b,rfl⟩:=ge z;exact bM (a9 (b:=false) (ae (ds:=[a,.int 0,.int 9999]) (am (gf (n:=0) rfl rfl) rfl) (ww 0 9999 (h.sub.2 a (by simp)))))
 refine⟨λh2=>?_,λhd G e hw=>?_⟩
 ·rw[h2]at t;exact ar rfl (aL t (ao rfl))
 ·subst e;have t':=t.trans (show _=some true by show some (!true || !aw hd 0 9999)=_;rw[hw];rfl);exact ar rfl (aL t' (ao rfl))
section
variable {h:Int}{iO:D}(hok:Ok (.tup [.int h,iO])) (hh:aw (.int h) 0 9999=true)
include hok hh
theorem w9:b7 (aN (aO (fA ap (fV 0 (aa (fC (.ty "tuple")) ag))))) (b7 (aO (f2 jl (fA bp (fV 0 ag)) (fI 2))) (aN (aO (fA bg (aa (be 0 0) (aa (fI 0) (aa (fI 9999) ag))))))) [some (.tup [.int h,iO],false),none,none,none,none]=some false:=by
 have t:=Cr (ρ:=[some (.tup [.int h,iO],false),none,none,none,none]) (i:=0) (c:=aN (aO (fA bg (aa (be 0 0) (aa (fI 0) (aa (fI 9999) ag)))))) (p:=!aw (.int h) 0 9999) hok rfl λz=>bM (a9 (b:=false) (ae (ds:=[.int h,.int 0,.int 9999]) (am (gf (n:=0) rfl rfl) rfl) (ww 0 9999 (.int h))));exact t.trans (show _=some false by rw[hh];rfl)
theorem tf (hn:o7 iO=true∨∃w,iO=.tup [.str w]):cI [.tup [.int h,iO]]=some (.bl false,false):=by
 have hd:=hok.sub.2 iO (by simp);refine ar rfl (ax (w9 hok hh) (oo (d:=iO) (gf (n:=1) rfl rfl) rfl (aL ?_ (ao rfl))));cases hd with
 |tup ds hl hs=>
  refine(aS (p:=false) (q:=true) (hZ (.tup ds hl hs) rfl) λ_=>?_).trans rfl;match ds,hn with
  |[],_=>exact(aS (p:=true) (q:=true) (a9 (b:=false) (a7 (x:=.int 0) (y:=.int 2) (b1:=false) (b2:=false) rfl rfl rfl)) λz=>by cases z).trans rfl
  |[_],_=>exact(aS (p:=true) (q:=true) (a9 (b:=false) (a7 (x:=.int 1) (y:=.int 2) (b1:=false) (b2:=false) rfl rfl rfl)) λz=>by cases z).trans rfl
  |a::b::r,hn=>
   have ha:=hs a (by simp);have G:lf a=false:=by
    rcases hn with hn|⟨w,e⟩
    ·cases a<;>first|rfl|cases hn
    ·cases e
   refine(aS (p:=false) (q:=true) (a9 (b:=false) (a7 (x:=.int ((a::b::r).length:Int)) (y:=.int 2) (b1:=false) (b2:=false) (ae (ds:=[.tup (a::b::r)]) rfl rfl) rfl ?_)) λ_=>(bM (p:=false) (a9 (b:=false) (ae (ds:=[a,.ty "str"]) (am (gf (n:=0) rfl rfl) rfl) ((pV ha).trans (by rw[G])))))).trans rfl;show some (D.bl (decide (((a::b::r).length:Int)<2)),false)=_;rw[decide_eq_false];simp only[vE];omega
 |_=>exact(aS (p:=true) (q:=true) rfl λz=>by cases z).trans rfl
end
def Cv:FS:=(ay (bU (aO (f2 cB (be 1 0) (fS "root"))) (ay (ba 2 (fS "nmfr"))
  (ba 3 (gF (ak 1) (bj (fI 1)) cP))) (bU (aO (fA bg (aa (be 1 1) (aa (fI 0) (aa (be 0 0) ag))))) (ba 4 (be 1 1)) (aD (fC (.bl false))))) w6)
def yz {h:Int}{w z:Str}{a:D}{r:LD}(hd:Ok (.tup (.str w::a::r)))(tK:z.length<=1000)(M:(a::r).length<=1000):Cv [some (.tup [.int h,.tup (.str w::a::r)],false),some (.tup (.str w::a::r),false),some (.str z,false),some (.tup r,false),some (.int 0,false)]=some (.rt (.bl (gt h w z a r)) false):=by
 have ha:=hd.sub.2 a (by simp);have hr:∀d∈r,Ok d:=λd G=>hd.sub.2 d (by simp[G]);have O:∀d∈a::r,Ok d:=λd G=>hd.sub.2 d (mZ _ G);have T:be 1 0 [some (.tup [.int h,.tup (.str w::a::r)],false),some (.tup (.str w::a::r),false),some (.str z,false),some (.tup r,false),some (.int 0,false)]=some (.str w,false):=gf (n:=0) rfl rfl;have t:aO (f2 cB (be 1 0) (fS "root")) [some (.tup [.int h,.tup (.str w::a::r)],false),some (.tup (.str w::a::r),false),some (.str z,false),some (.tup r,false),some (.int 0,false)]=some (decide (w=("root" : Str))):=a9 (b:=false) (a7 (x:=.str w) (y:=.str "root") (b1:=false) (b2:=false) T rfl (yu _ _));unfold gt;cases hw:decide (w=("root" : Str)) with
 |true=>
  rw[hw]at t;refine dj (ρ':=[some (.tup [.int h,.tup (.str w::a::r)],false),some (.tup (.str w::a::r),false),some (.str "nmfr",false),some (.tup (a::r),false),some (.int 0,false)]) (mQ t (bu (d:=.str "nmfr") (b:=false) rfl rfl ((A9 (d:=.tup (a::r)) ?_ rfl).trans rfl))) (pX _ _ _ _ 0 sZ M O);show some (D.tup (c8 (.str w::a::r) (some 1) none),false)=_;rw[AF]
 |false=>
  rw[hw]at t;have t2:aO (fA bg (aa (be 1 1) (aa (fI 0) (aa (be 0 0) ag)))) [some (.tup [.int h,.tup (.str w::a::r)],false),some (.tup (.str w::a::r),false),some (.str z,false),some (.tup r,false),some (.int 0,false)]=some (aw a 0 h):=a9 (b:=false) (ae (ds:=[a,.int 0,.int h]) (am (gf (n:=1) rfl rfl) (am (b:=false) rfl (am (gf (n:=0) rfl rfl) rfl))) (ww 0 h ha));have U:be 1 1 [some (.tup [.int h,.tup (.str w::a::r)],false),some (.tup (.str w::a::r),false),some (.str z,false),some (.tup r,false),some (.int 0,false)]=some (a,false):=gf (n:=1) rfl rfl;cases hx:aw a 0 h with
  |false=>
   rw[hx]at t2;refine uT ((lL t (lL t2 (ao rfl))).trans ?_);cases a<;>try rfl
   rename_i day;show _=some (Res.rt (.bl ((decide (0<=day) && decide (day<=h)) && _)) false);rw[←bE,hx];rfl
  |true=>
   rw[hx]at t2;obtain⟨day,rfl,h0,h1⟩:=dr hx;refine dj (lL t (mQ t2 (eY U rfl))) ((pX _ _ z r day tK (by rw[vE]at M;omega) hr).trans ?_);show _=some (Res.rt (.bl ((decide (0<=day) && decide (day<=h)) && _)) false);rw[decide_eq_true h0,decide_eq_true h1];rfl
def ie {h:Int}{w z:Str}{a:D}{r:LD}(hok:Ok (.tup [.int h,.tup (.str w::a::r)]))(hh:aw (.int h) 0 9999=true)(hz:jo w=.str z)(tK:z.length<=1000)(M:(a::r).length<=1000):cI [.tup [.int h,.tup (.str w::a::r)]]=some (.bl (gt h w z a r),false):=by
 have hd:=hok.sub.2 (.tup (.str w::a::r)) (by simp);have G:∀ {O T U:OB},be 1 0 [some (.tup [.int h,.tup (.str w::a::r)],false),some (.tup (.str w::a::r),false),O,T,U]=some (.str w,false):=gf (n:=0) rfl rfl;refine ar rfl (ax (w9 hok hh) (oo (d:=.tup (.str w::a::r)) (gf (n:=1) rfl rfl) rfl (ax ?_ (bu (d:=.str z) (b:=false) (ae (ds:=[.str w]) (am G rfl) (by rw[sY,hz])) rfl (oo (d:=.tup r) ?_ rfl (bu (d:=.int 0) (b:=false) rfl rfl (yz hd tK M)))))))
 ·refine(aS (p:=false) (q:=false) (hZ hd rfl) λ_=>(aS (p:=false) (q:=false) (a9 (b:=false) (a7 (x:=.int ((.str w::a::r:LD).length:Int)) (y:=.int 2) (b1:=false) (b2:=false) (ae (ds:=[.tup (.str w::a::r)]) rfl rfl) rfl ?_)) λ_=>(bM (p:=true) (a9 (b:=false) (ae (ds:=[.str w,.ty "str"]) (am G rfl) rfl)))).trans rfl).trans rfl;show some (D.bl (decide (((.str w::a::r:LD).length:Int)<2)),false)=_;rw[decide_eq_false];simp only[vE];omega
 ·show some (D.tup (c8 (.str w::a::r) (some 2) none),false)=_;rw[Cu]
def aq {x a b:Bool}(h:x=false):cond x a b=b:=by rw[h];rfl
def bQ {x a b:Bool}(h:x=true):cond x a b=a:=by rw[h];rfl
def tj {v:D}:cx ("day" : Str) v=aw v 0 9999:=bQ (by decide +kernel)
def tm {v:D}:cx ("since" : Str) v=aw v 0 9999:=bQ (by decide +kernel)
def ln {v:D}:cx ("office" : Str) v=aH v:=(aq (by decide +kernel)).trans (bQ (by decide +kernel))
def wA {v:D}:cx ("by" : Str) v=aH v:=(aq (by decide +kernel)).trans (bQ (by decide +kernel))
def lp {v:D}:cx ("person" : Str) v=aH v:=(aq (by decide +kernel)).trans (bQ (by decide +kernel))
def ve {v:D}:cx ("whom" : Str) v=lh v:=(aq (by decide +kernel)).trans ((aq (by decide +kernel)).trans (bQ (by decide +kernel)))
def oC {v:D}:cx ("matters" : Str) v=aw v 1 255:=(aq (by decide +kernel)).trans ((aq (by decide +kernel)).trans ((aq (by decide +kernel)).trans (bQ (by decide +kernel))))
def oD {v:D}:cx ("stretch" : Str) v=bI v:=(aq (by decide +kernel)).trans ((aq (by decide +kernel)).trans ((aq (by decide +kernel)).trans ((aq (by decide +kernel)).trans (bQ (by decide +kernel)))))
def oE {v:D}:cx ("further" : Str) v=aw v 0 9:=(aq (by decide +kernel)).trans ((aq (by decide +kernel)).trans ((aq (by decide +kernel)).trans ((aq (by decide +kernel)).trans ((aq (by decide +kernel)).trans (bQ (by decide +kernel))))))
def vf {v:D}:cx ("rule" : Str) v=ia v:=(aq (by decide +kernel)).trans ((aq (by decide +kernel)).trans ((aq (by decide +kernel)).trans ((aq (by decide +kernel)).trans ((aq (by decide +kernel)).trans ((aq (by decide +kernel)).trans (bQ (by decide +kernel)))))))
def AI {v:D}:cx ("of" : Str) v=aw v 0 59:=(aq (by decide +kernel)).trans ((aq (by decide +kernel)).trans ((aq (by decide +kernel)).trans ((aq (by decide +kernel)).trans ((aq (by decide +kernel)).trans ((aq (by decide +kernel)).trans ((aq (by decide +kernel)).trans (bQ (by decide +kernel))))))))
def qL {v:D}:cx ("pieces" : Str) v=dz v:=(aq (by decide +kernel)).trans ((aq (by decide +kernel)).trans ((aq (by decide +kernel)).trans ((aq (by decide +kernel)).trans ((aq (by decide +kernel)).trans ((aq (by decide +kernel)).trans ((aq (by decide +kernel)).trans ((aq (by decide +kernel)).trans (bQ (by decide +kernel)))))))))
def oF {v:D}:cx ("changes" : Str) v=de v:=(aq (by decide +kernel)).trans ((aq (by decide +kernel)).trans ((aq (by decide +kernel)).trans ((aq (by decide +kernel)).trans ((aq (by decide +kernel)).trans ((aq (by decide +kernel)).trans ((aq (by decide +kernel)).trans ((aq (by decide +kernel)).trans (aq (by decide +kernel)))))))))
section
variable {v:D}{day:Int}
def eP:aP ⟨#[110]⟩ v day=aH v:=bQ (by decide +kernel)
def y0:aP ⟨#[119]⟩ v day=lh v:=(aq (by decide +kernel)).trans (bQ (by decide +kernel))
def tp:aP ⟨#[109]⟩ v day=aw v 1 255:=(aq (by decide +kernel)).trans ((aq (by decide +kernel)).trans (bQ (by decide +kernel)))
def y3:aP ⟨#[102]⟩ v day=aw v 0 9:=(aq (by decide +kernel)).trans ((aq (by decide +kernel)).trans ((aq (by decide +kernel)).trans (bQ (by decide +kernel))))
def y4:aP ⟨#[111]⟩ v day=aw v 0 59:=(aq (by decide +kernel)).trans ((aq (by decide +kernel)).trans ((aq (by decide +kernel)).trans ((aq (by decide +kernel)).trans (bQ (by decide +kernel)))))
def vg:aP ⟨#[115]⟩ v day=bI v:=(aq (by decide +kernel)).trans ((aq (by decide +kernel)).trans ((aq (by decide +kernel)).trans ((aq (by decide +kernel)).trans ((aq (by decide +kernel)).trans (bQ (by decide +kernel))))))
def AJ:aP ⟨#[100]⟩ v day=aw v day 9999:=(aq (by decide +kernel)).trans ((aq (by decide +kernel)).trans ((aq (by decide +kernel)).trans ((aq (by decide +kernel)).trans ((aq (by decide +kernel)).trans ((aq (by decide +kernel)).trans (bQ (by decide +kernel)))))))
def AK:aP ⟨#[99]⟩ v day=de v:=(aq (by decide +kernel)).trans ((aq (by decide +kernel)).trans ((aq (by decide +kernel)).trans ((aq (by decide +kernel)).trans ((aq (by decide +kernel)).trans ((aq (by decide +kernel)).trans ((aq (by decide +kernel)).trans (bQ (by decide +kernel))))))))
def AL:aP ⟨#[112]⟩ v day=dz v:=(aq (by decide +kernel)).trans ((aq (by decide +kernel)).trans ((aq (by decide +kernel)).trans ((aq (by decide +kernel)).trans ((aq (by decide +kernel)).trans ((aq (by decide +kernel)).trans ((aq (by decide +kernel)).trans ((aq (by decide +kernel)).trans (bQ (by decide +kernel)))))))))
def pY {c:Nat}(h:(decide ((⟨#[c]⟩:Str)=("n" : Str)) || (decide ((⟨#[c]⟩:Str)=("w" : Str)) || (decide ((⟨#[c]⟩:Str)=("m" : Str)) || (decide ((⟨#[c]⟩:Str)=("f" : Str)) || (decide ((⟨#[c]⟩:Str)=("o" : Str)) || (decide ((⟨#[c]⟩:Str)=("s" : Str)) || (decide ((⟨#[c]⟩:Str)=("d" : Str)) || (decide ((⟨#[c]⟩:Str)=("c" : Str)) || decide ((⟨#[c]⟩:Str)=("p" : Str))))))))))=false):aP ⟨#[c]⟩ v day=(decide ((⟨#[c]⟩:Str)=("r" : Str)) && ia v):=by
 simp only[Bool.or_eq_false_iff]at h;obtain⟨h1,h2,h3,h4,h5,G,M,O,T⟩:=h;exact(aq h1).trans ((aq h2).trans ((aq h3).trans ((aq h4).trans ((aq h5).trans ((aq G).trans ((aq M).trans ((aq O).trans (aq T))))))))
def AM:aP ⟨#[114]⟩ v day=ia v:=by
 rw[pY (by decide +kernel),show decide ((⟨#[114]⟩:Str)=("r" : Str))=true by decide +kernel,Bool.true_and]
def Cw:aP ⟨#[45]⟩ v day=false:=by
 rw[pY (by decide +kernel),show decide ((⟨#[45]⟩:Str)=("r" : Str))=false by decide +kernel,Bool.false_and]
end
def pf (p:Str)(c:Nat):Prop:=∀v day,cx p v=aP ⟨#[c]⟩ v day
inductive PF:List Str->List Nat->Prop
 |nil:PF [] []
 |cons {p:Str}{c:Nat}{ps:List Str}{cs:List Nat}(h:pf p c) (t:PF ps cs):PF (p::ps) (c::cs)
def PF.eq (day:Int){ps:LS}{cs:LN}(h:PF ps cs):∀r:LD,df ps r=fu day cs r:=by
 induction h with
 |nil=>intro r;cases r<;>rfl
 |@cons p c ps cs h t G=>
  intro r;cases r with
  |nil=>rfl
  |cons d r=>
   show(cx p d && df ps r)=(aP _ d day && fu day cs r);rw[G r,h d day]
def jV:pf ("office" : Str) 110:=λ_ _=>ln.trans eP.symm
def qM:pf ("by" : Str) 110:=λ_ _=>wA.trans eP.symm
def fx:pf ("person" : Str) 110:=λ_ _=>lp.trans eP.symm
def tq:pf ("whom" : Str) 119:=λ_ _=>ve.trans y0.symm
def gs:pf ("matters" : Str) 109:=λ_ _=>oC.trans tp.symm
def lq:pf ("further" : Str) 102:=λ_ _=>oE.trans y3.symm
def iK:pf ("stretch" : Str) 115:=λ_ _=>oD.trans vg.symm
def y8:pf ("rule" : Str) 114:=λ_ _=>vf.trans AM.symm
def y9:pf ("of" : Str) 111:=λ_ _=>AI.trans y4.symm
def tr:pf ("pieces" : Str) 112:=λ_ _=>qL.trans AL.symm
def qN:pf ("changes" : Str) 99:=λ_ _=>oF.trans AK.symm
section
variable {h:Int}{w:Str}{a:D}{r:LD}(hok:Ok (.tup [.int h,.tup (.str w::a::r)])) (hh:aw (.int h) 0 9999=true)
include hok hh
theorem gK {x y:Bool}(G:cV [.tup (.str w::a::r)]=some (.bl x,false))(M:x=true->dF [.tup [.int h,.tup (.str w::a::r)]]=some (.bl y,false)):ca [.tup [.int h,.tup (.str w::a::r)]]=some (.bl (x && y),false):=by
 have t:=t2 (ρ:=[some (.tup [.int h,.tup (.str w::a::r)],false)]) (i:=0) hok rfl;exact ar rfl (ax t (ao ((dq (p:=true) (b1:=false) (ae (ds:=[.int h]) (am (gf (n:=0) rfl rfl) rfl) ((iH _ rfl).trans (by rw[hh]))) λ_=>dq (b1:=false) (ae (ds:=[.tup (.str w::a::r)]) (am (gf (n:=1) rfl rfl) rfl) G) λz=>ae (ds:=[.tup [.int h,.tup (.str w::a::r)]]) rfl (M z)).trans rfl)))
theorem Dt:0<=h/\h<=9999:=by
 rw[bE,vD]at hh;exact⟨of_decide_eq_true hh.1,of_decide_eq_true hh.2⟩
theorem vh {z:Str}{ps:LS}(hp:gH bd (.str w)=some (.tup ((("day" : Str)::ps).map .str),false))(hl:ps.length<=50)(yQ:PF ps z.cps.toList)(hi:jn bd (.str w) (.str "day")=some (.int (0:Nat),false))(hr:w≠("root" : Str))(hc:w≠("chosen" : Str)):ca [.tup [.int h,.tup (.str w::a::r)]]=some (.bl (gt h w z a r),false):=by
 have hd:=hok.sub.2 (.tup (.str w::a::r)) (by simp);have T:=Dt hok hh;have G:=gq hd hp (by simp;omega);have M:df (("day" : Str)::ps) (a::r)=(aw a 0 9999 && df ps r):=by
  show(cx _ a && _)=_;rw[tj]
 rw[M]at G;have O:gt h w z a r=(match a with
  |.int day=>(decide (0<=day) && decide (day<=h)) && df ps r
  |_=>false):=by
  unfold gt;rw[decide_eq_false hr];show(match a with|.int day=>_|_=>_)=_;cases a with
  |int day=>
   show(_ && fu day _ r)=(_ && _);rw[yQ.eq day r]
  |_=>rfl
 rw[O];cases hx:aw a 0 9999 with
 |false=>
  rw[hx]at G;refine(gK hok hh (y:=false) G λz=>by simp at z).trans ?_;cases a with
  |int day=>
   show _=some (D.bl ((decide (0<=day) && decide (day<=h)) && _),false);have:(decide (0<=day) && decide (day<=h))=false:=by
    rw[Bool.eq_false_iff];intro q;rw[vD]at q;rw[bE,decide_eq_true (of_decide_eq_true q.1),decide_eq_true (show day<=9999 by have:=of_decide_eq_true q.2;omega)]at hx;cases hx
   rw[this];rfl
  |_=>rfl
 |true=>
  obtain⟨day,rfl,h0,h1⟩:=dr hx;rw[hx]at G;refine(gK hok hh (y:=decide (day<=h)) G λ_=>(lj hr hi false ((lM (p:=false) (q:=false) (a9 (b:=false) (a7 (x:=.str w) (y:=.str "chosen") (b1:=false) (b2:=false) (ae (ds:=[.tup [.int h,.tup (.str w::.int day::r)]]) rfl (ib _ _ _)) rfl (by rw[yu,decide_eq_false hc]))) λz=>by cases z).trans rfl)).trans rfl).trans ?_;show some (D.bl ((true && df ps r) && decide (day<=h)),false)=some (D.bl ((decide (0<=day) && decide (day<=h)) && df ps r),false);rw[decide_eq_true h0,Bool.true_and,Bool.true_and,Bool.and_comm]
end
noncomputable def pZ:LS:=[("office" : Str),("matters" : Str),("further" : Str),("rule" : Str)]
noncomputable def qO:LS:=[("by" : Str),("office" : Str),("person" : Str),("since" : Str)]
def qa:("nmfr" : Str).cps.toList=[110,109,102,114]:=by decide +kernel
def yA:("nnnd" : Str).cps.toList=[110,110,110,100]:=by decide +kernel
def vi:PF pZ [110,109,102,114]:=.cons jV (.cons gs (.cons lq (.cons y8 .nil)))
def tu:gH bd (.str "root")=some (.tup (pZ.map .str),false):=iC (by decide +kernel)
def wB:gH bd (.str "chosen")=some (.tup ((("day" : Str)::qO).map .str),false):=iC (by decide +kernel)
def AN:jn bd (.str "chosen") (.str "day")=some (.int (0:Nat),false):=iC (by decide +kernel)
def yB:jn bd (.str "chosen") (.str "since")=some (.int (4:Nat),false):=iC (by decide +kernel)
def nr:("chosen" : Str)≠("root" : Str):=by decide +kernel
section
variable {h:Int}{a:D}{r:LD}
def vj (hok:Ok (.tup [.int h,.tup (.str "root" :: a::r)]))(hh:aw (.int h) 0 9999=true)(z:Str):ca [.tup [.int h,.tup (.str "root" :: a::r)]]=some (.bl (gt h ("root" : Str) z a r),false):=by
 have hd:=hok.sub.2 (.tup (.str "root" :: a::r)) (by simp);have G:=gq hd tu (by simp[pZ]);refine(gK hok hh (y:=true) G λ_=>np _ _).trans ?_;unfold gt;rw[bQ (decide_eq_true rfl),qa,vi.eq 0,Bool.and_true]
def yC (hok:Ok (.tup [.int h,.tup (.str "chosen" :: a::r)]))(hh:aw (.int h) 0 9999=true):ca [.tup [.int h,.tup (.str "chosen" :: a::r)]]=some (.bl (gt h ("chosen" : Str) ("nnnd" : Str) a r),false):=by
 have hd:=hok.sub.2 (.tup (.str "chosen" :: a::r)) (by simp);have h9:=Dt hok hh;have T:=gq hd wB (by simp[qO]);have el:gt h ("chosen" : Str) ("nnnd" : Str) a r=(match a with
  |.int day=>(decide (0<=day) && decide (day<=h)) && fu day [110,110,110,100] r
  |_=>false):=by
  unfold gt;rw[aq (decide_eq_false nr),yA];cases a<;>rfl
 rw[el];by_cases hl:r.length=4
 ·match r,hl with
  |[G,M,O,s],_=>
   have ep:df (("day" : Str)::qO) [a,G,M,O,s]=(aw a 0 9999 && (aH G && (aH M && (aH O && (aw s 0 9999 && true))))):=by
    show(cx _ a && (cx _ G && (cx _ M && (cx _ O && (cx _ s && true)))))=_;rw[tj,wA,ln,lp,tm]
   have ef:∀day,fu day [110,110,110,100] [G,M,O,s]=(aH G && (aH M && (aH O && (aw s day 9999 && true)))):=λday=>by
    show(aP _ G day && (aP _ M day && (aP _ O day && (aP _ s day && true))))=_;rw[eP,eP,eP,AJ]
   rw[ep]at T;cases hx:aw a 0 9999 with
   |false=>
    rw[hx]at T;refine(gK hok hh (y:=false) T λz=>by simp at z).trans ?_;cases a with
    |int day=>
     show _=some (D.bl ((decide (0<=day) && decide (day<=h)) && _),false);have:(decide (0<=day) && decide (day<=h))=false:=by
      rw[Bool.eq_false_iff];intro q;rw[vD]at q;rw[bE,decide_eq_true (of_decide_eq_true q.1),decide_eq_true (show day<=9999 by have:=of_decide_eq_true q.2;omega)]at hx;cases hx
     rw[this];rfl
    |_=>rfl
   |true=>
    obtain⟨day,rfl,h0,h1⟩:=dr hx;rw[hx]at T;show _=some (D.bl ((decide (0<=day) && decide (day<=h)) && fu day [110,110,110,100] [G,M,O,s]),false);rw[ef];cases hs:aw s 0 9999 with
    |false=>
     have U:aw s day 9999=false:=by
      cases s with
      |int k=>
       rw[Bool.eq_false_iff];intro q;rw[bE,vD]at q;have q1:=of_decide_eq_true q.1;rw[bE,decide_eq_true (show 0<=k by omega),q.2]at hs;cases hs
      |_=>rfl
     rw[hs]at T;refine(gK hok hh (y:=false) T λz=>by simp at z).trans ?_;rw[U];simp
    |true=>
     obtain⟨k,rfl,k0,k1⟩:=dr hs;rw[hs]at T;have ht:=lj (h:=h) (day:=day) (r:=[G,M,O,.int k]) nr AN (decide (k<day)) ((lM (p:=true) (q:=decide (k<day)) (a9 (b:=false) (a7 (x:=.str "chosen") (y:=.str "chosen") (b1:=false) (b2:=false) (ae (ds:=[.tup [.int h,.tup (.str "chosen" :: .int day::[G,M,O,.int k])]]) rfl (ib _ _ _)) rfl ((yu _ _).trans (by rw[decide_eq_true rfl])))) λ_=>a9 (b:=false) (a7 (x:=.int k) (y:=.int day) (b1:=false) (b2:=false) (ae (ds:=[.tup [.int h,.tup (.str "chosen" :: .int day::[G,M,O,.int k])],.str "since"]) rfl (w5 yB rfl)) rfl rfl)).trans rfl);refine(gK hok hh T λ_=>ht).trans ?_;rw[bE,decide_eq_true k1,decide_eq_true h0,show decide (day<=k) = !decide (k<day) by rw[←decide_not];exact decide_eq_decide.mpr (by omega)];generalize aH G=n1;generalize aH M=n2;generalize aH O=n3;generalize decide (k<day)=c1;generalize decide (day<=h)=c2;cases n1<;>cases n2<;>cases n3<;>cases c1<;>cases c2<;>rfl
 ·have hp:df (("day" : Str)::qO) (a::r)=false:=iJ _ _ (by simp[qO];omega);rw[hp]at T;refine(gK hok hh (y:=false) T λz=>by cases z).trans ?_;cases a with
  |int day=>
   show _=some (D.bl (_ && fu day [110,110,110,100] r),false);rw[lN day _ r (by simp;omega),Bool.and_false,Bool.and_false]
  |_=>rfl
end
inductive Wd:Str->Prop
 |root:Wd ("root" : Str)
 |cho:Wd ("chosen" : Str)
 |reg {w:Str}(z:Str) (ps:List Str) (hp:gH bd (.str w)=some (.tup ((("day" : Str)::ps).map .str),false)) (hl:ps.length<=50) (hz:jo w=.str z) (tK:z.length<=1000) (yQ:PF ps z.cps.toList) (hi:jn bd (.str w) (.str "day")=some (.int (0:Nat),false)) (hr:w≠("root" : Str)) (hc:w≠("chosen" : Str)):Wd w
 |out {w:Str}(hp:bd.lookup w=none) (hz:jo w=.str ("-" : PySem.Str)) (hr:w≠("root" : Str)):Wd w
def ko {w:Str}(z:Str)(ps:LS)(cs:LN)(hp:B4 (gH bd (.str w)) (.tup ((("day" : Str)::ps).map .str)) false=true)(hl:ps.length<=50)(hz:eX (jo w) (.str z)=true)(tK:z.length<=1000)(G:z.cps.toList=cs)(yQ:PF ps cs)(hi:B4 (jn bd (.str w) (.str "day")) (.int (0:Nat)) false=true)(hr:decide (w=("root" : Str))=false)(hc:decide (w=("chosen" : Str))=false):Wd w:=.reg z ps (iC hp) hl (gn hz) tK (G ▸ yQ) (iC hi) (of_decide_eq_false hr) (of_decide_eq_false hc)
def vk:Wd ("named" : Str):=ko ("nn" : Str) [("office" : Str),("person" : Str)] [110,110] (by decide +kernel) (by decide) (by decide +kernel) (by decide +kernel) (by decide +kernel) (.cons jV (.cons fx .nil)) (by decide +kernel) (by decide +kernel) (by decide +kernel)
def yD:Wd ("heir" : Str):=ko ("nnn" : Str) [("by" : Str),("office" : Str),("person" : Str)] [110,110,110] (by decide +kernel) (by decide) (by decide +kernel) (by decide +kernel) (by decide +kernel) (.cons qM (.cons jV (.cons fx .nil))) (by decide +kernel) (by decide +kernel) (by decide +kernel)
def vm:Wd ("death" : Str):=ko ("n" : Str) [("person" : Str)] [110] (by decide +kernel) (by decide) (by decide +kernel) (by decide +kernel) (by decide +kernel) (.cons fx .nil) (by decide +kernel) (by decide +kernel) (by decide +kernel)
def yE:Wd ("lost" : Str):=ko ("n" : Str) [("person" : Str)] [110] (by decide +kernel) (by decide) (by decide +kernel) (by decide +kernel) (by decide +kernel) (.cons fx .nil) (by decide +kernel) (by decide +kernel) (by decide +kernel)
def vn:Wd ("found" : Str):=ko ("n" : Str) [("person" : Str)] [110] (by decide +kernel) (by decide) (by decide +kernel) (by decide +kernel) (by decide +kernel) (.cons fx .nil) (by decide +kernel) (by decide +kernel) (by decide +kernel)
def vo:Wd ("leave" : Str):=ko ("nnmsf" : Str) [("by" : Str),("person" : Str),("matters" : Str),("stretch" : Str),("further" : Str)] [110,110,109,115,102] (by decide +kernel) (by decide) (by decide +kernel) (by decide +kernel) (by decide +kernel) (.cons qM (.cons fx (.cons gs (.cons iK (.cons lq .nil))))) (by decide +kernel) (by decide +kernel) (by decide +kernel)
def vp:Wd ("paper" : Str):=ko ("nmswp" : Str) [("by" : Str),("matters" : Str),("stretch" : Str),("whom" : Str),("pieces" : Str)] [110,109,115,119,112] (by decide +kernel) (by decide) (by decide +kernel) (by decide +kernel) (by decide +kernel) (.cons qM (.cons gs (.cons iK (.cons tq (.cons tr .nil))))) (by decide +kernel) (by decide +kernel) (by decide +kernel)
def yF:Wd ("like" : Str):=ko ("nmswoc" : Str) [("by" : Str),("matters" : Str),("stretch" : Str),("whom" : Str),("of" : Str),("changes" : Str)] [110,109,115,119,111,99] (by decide +kernel) (by decide) (by decide +kernel) (by decide +kernel) (by decide +kernel) (.cons qM (.cons gs (.cons iK (.cons tq (.cons y9 (.cons qN .nil)))))) (by decide +kernel) (by decide +kernel) (by decide +kernel)
def yG:Wd ("copy" : Str):=ko ("no" : Str) [("by" : Str),("of" : Str)] [110,111] (by decide +kernel) (by decide) (by decide +kernel) (by decide +kernel) (by decide +kernel) (.cons qM (.cons y9 .nil)) (by decide +kernel) (by decide +kernel) (by decide +kernel)
def yH:Wd ("call" : Str):=ko ("no" : Str) [("by" : Str),("of" : Str)] [110,111] (by decide +kernel) (by decide) (by decide +kernel) (by decide +kernel) (by decide +kernel) (.cons qM (.cons y9 .nil)) (by decide +kernel) (by decide +kernel) (by decide +kernel)
def wC (w:Str):Wd w:=by
 by_cases h1:w=("root" : Str)
 ·subst h1;exact .root
 by_cases h2:w=("named" : Str)
 ·subst h2;exact vk
 by_cases h3:w=("chosen" : Str)
 ·subst h3;exact .cho
 by_cases h4:w=("heir" : Str)
 ·subst h4;exact yD
 by_cases h5:w=("death" : Str)
 ·subst h5;exact vm
 by_cases U:w=("lost" : Str)
 ·subst U;exact yE
 by_cases h7:w=("found" : Str)
 ·subst h7;exact vn
 by_cases h8:w=("leave" : Str)
 ·subst h8;exact vo
 by_cases h9:w=("paper" : Str)
 ·subst h9;exact vp
 by_cases M:w=("like" : Str)
 ·subst M;exact yF
 by_cases O:w=("copy" : Str)
 ·subst O;exact yG
 by_cases T:w=("call" : Str)
 ·subst T;exact yH
 have G:∀(k:Str)(v:D)(l:List (Str×D)),w≠k->List.lookup w ((k,v)::l)=List.lookup w l:=λk v l hk=>by
  rw[lookup_cons];rw[beq_false_of_ne hk]
 have ld:∀(k:Str)(ks:LK)(v:D)(vs:LD),w≠k->fT (.inr k::ks) (v::vs) (.inr w:dh)=fT ks vs (.inr w):=λk ks v vs hk=>by
  show(if(.inr k:dh)=.inr w then _ else _)=_;rw[if_neg λe=>hk (by injection e with e;exact e.symm)]
 refine .out ?_ ?_ h1
 ·unfold bd;rw[G _ _ _ h1,G _ _ _ h2,G _ _ _ h3,G _ _ _ h4,G _ _ _ h5,G _ _ _ U,G _ _ _ h7,G _ _ _ h8,G _ _ _ h9,G _ _ _ M,G _ _ _ O,G _ _ _ T];rfl
 ·unfold jo;rw[ld _ _ _ _ h2,ld _ _ _ _ h3,ld _ _ _ _ h4,ld _ _ _ _ h5,ld _ _ _ _ U,ld _ _ _ _ h7,ld _ _ _ _ h8,ld _ _ _ _ h9,ld _ _ _ _ M,ld _ _ _ _ O,ld _ _ _ _ T];rfl
def oG {h:Int}{G:D}(hok:Ok (.tup [.int h,G]))(M:cV [G]=some (.bl false,false)):ca [.tup [.int h,G]]=some (.bl false,false):=by
 have t:=t2 (ρ:=[some (.tup [.int h,G],false)]) (i:=0) hok rfl;exact ar rfl (ax t (ao ((dq (q:=false) (b1:=false) (ae (ds:=[.int h]) (am (gf (n:=0) rfl rfl) rfl) (iH _ rfl)) λ_=>(dq (p:=false) (q:=false) (b1:=false) (ae (ds:=[G]) (am (gf (n:=1) rfl rfl) rfl) M) λz=>by cases z).trans rfl).trans (by rw[Bool.and_false]))))
def qc:jo ("root" : Str)=.str ("-" : PySem.Str):=gn (by decide +kernel)
def tw:jo ("chosen" : Str)=.str "nnnd":=gn (by decide +kernel)
def Cy:("-" : PySem.Str).cps.toList=[45]:=by decide +kernel
def AQ:("-" : PySem.Str).length<=1000:=by decide +kernel
def Cz:("nnnd" : Str).length<=1000:=by decide +kernel
def jW {h:Int}{w:Str}{a:D}{r:LD}(hok:Ok (.tup [.int h,.tup (.str w::a::r)]))(hh:aw (.int h) 0 9999=true):∃z,jo w=.str z/\ca [.tup [.int h,.tup (.str w::a::r)]]=some (.bl (gt h w z a r),false)/\cI [.tup [.int h,.tup (.str w::a::r)]]=some (.bl (gt h w z a r),false):=by
 have hd:=hok.sub.2 (.tup (.str w::a::r)) (by simp);have hl:(a::r).length<=1000:=by have:=hd.sub.1;rw[vE]at this;omega
 cases wC w with
 |root=>exact⟨_,qc,vj hok hh _,ie hok hh qc AQ hl⟩
 |cho=>exact⟨_,tw,yC hok hh,ie hok hh tw Cz hl⟩
 |reg z ps hp G hz tK yQ hi hr hc=>exact⟨z,hz,vh hok hh hp G yQ hi hr hc,ie hok hh hz tK hl⟩
 |out hp hz hr=>
  refine⟨_,hz,(oG hok (nl hd hp)).trans ?_,ie hok hh hz AQ hl⟩;unfold gt;rw[aq (decide_eq_false hr),Cy];cases a with
  |int day=>
   have e:fu day [45] r=false:=by
    cases r with
    |nil=>rfl
    |cons d r=>
     show(aP ⟨#[45]⟩ d day && _)=false;rw[Cw,Bool.false_and]
   show some (D.bl false,false)=some (D.bl (_ && fu day [45] r),false);rw[e,Bool.and_false]
  |_=>rfl
def both (h:Ok d):∃x,ca [d]=some (.bl x,false)/\cI [d]=some (.bl x,false):=by
 have t:=t2 (ρ:=[some (d,false)]) (i:=0) h rfl;obtain⟨k1,k2⟩:=AH h;cases h2:ke d with
 |false=>
  rw[h2]at t;exact⟨false,ar rfl (aL t (ao rfl)),k1 h2⟩
 |true=>
  rw[h2]at t;obtain⟨hd,G,rfl⟩:=ge h2;have O:=h.sub.2 hd (by simp);have M:=h.sub.2 G (by simp);cases hw:aw hd 0 9999 with
  |false=>
   exact⟨false,ar rfl (ax t (ao ((dq (p:=false) (q:=false) (b1:=false) (ae (ds:=[hd]) (am (gf (n:=0) rfl rfl) rfl) ((iH hd O.ty).trans (by rw[hw]))) λz=>by cases z).trans rfl))),k2 hd G rfl hw⟩
  |true=>
   obtain⟨i,rfl,_,_⟩:=dr hw;cases hn:o7 G with
   |true=>exact⟨false,oG h (vb M hn),tf h hw (.inl hn)⟩
   |false=>
    obtain⟨w,aW,rfl⟩:∃w aW,G=.tup (.str w::aW):=by
     match G,hn with
     |.tup (.str w::aW),_=>exact⟨w,aW,rfl⟩
    cases aW with
    |nil=>
     have e:cV [.tup [.str w]]=some (.bl false,false):=by
      cases wC w with
      |root=>exact gq M tu (by simp[pZ])
      |cho=>exact gq M wB (by simp[qO])
      |reg z ps hp T hz tK yQ hi hr hc=>exact gq M hp (by simp;omega)
      |out hp hz hr=>exact nl M hp
     exact⟨false,oG h e,tf h hw (.inr ⟨w,rfl⟩)⟩
    |cons a r=>
     obtain⟨z,_,U,e2⟩:=jW h hw;exact⟨_,U,e2⟩
noncomputable def iL (z:Str):Bool:=(decide (1<=z.length) && decide (z.length<=8)) && z.cps.toList.all jU
def vq (z:Str):aH (.str z)=iL z:=rfl
def AR (h:iL z=true):Ok (.str z):=.str z (by
 unfold iL at h;rw[vD,vD]at h;have:=of_decide_eq_true h.1.2;omega)
def dA:PySem.Str:="abcdefghijklmnopqrstuvwxyz"
def ig:dA.cps.size=26:=by decide +kernel
def yI (z:Str):z.length=z.cps.size:=rfl
theorem nt:∀(zs:LS)(y:Str),(Str.join ("" : Str) (y::zs)).cps.toList=(y::zs).flatMap λz=>z.cps.toList
 |[],y=>by rw[List.flatMap_cons,List.flatMap_nil,append_nil];rfl
 |z::r,y=>by
  have G:∀a b:Str,(a++b).cps.toList=a.cps.toList++b.cps.toList:=λa b=>by show(a.cps++b.cps).toList=_;simp
  show(y++("" : Str)++Str.join ("" : Str) (z::r)).cps.toList=_;rw[G,G,nt r z,show("" : Str).cps.toList=[]from rfl,append_nil];rfl
def t8 {zs:LS}(h:zs≠[]):(Txt.join ("" : Str) zs).cps.toList=zs.flatMap λz=>z.cps.toList:=by
 cases zs with
 |nil=>exact absurd rfl h
 |cons y zs=>
  unfold Txt.join;rw[StrLaws.glued_eq_join];exact nt zs y
def t9:∀i:_root_.Fin 26,jU (dA.cps.toList.getD i.val 0)=true:=by decide +kernel
def jX (x:Int):∃z:Str,db [.int x]=some (.str z,false)/\iL z=true:=by
 have h8:=bq (x:=x) (m:=8) (by decide);obtain⟨n,hn⟩:∃n:Nat,1+x % 8=n:=⟨(1+x % 8).toNat,by omega⟩;have M:=iT (fi:=dL (f2 bG (fC (.int 1)) (f2 bc (ak 0) (fC (.int 8))))) (nT:=1) (cap:=[1,0]) (tg:=dX 0)
  (fe:=f2 da (ak 1) (f2 bc (f2 bG (f2 cT (ak 2) (fC (.int 8))) (f2 fN (ak 0) (f2 cT (ak 2) (fC (.int 211))))) (fC (.int 26)))) (ρ:=[some (.int x,false),some (.str dA,false)])
  ((List.range n).map λ(k:Nat)=>(k:Int)) .int (λk=>.str ⟨#[dA.cps.toList.getD ((x / 8+k*(x / 211)) % 26).toNat 0]⟩)
  (by rw[←kN];exact eZ (j:=n) (b:=false) (by simp[hn]) (by omega)) (by simp;omega) λk hk=>by
   have CV : -18446744073709551616<k/\k<18446744073709551616:=by
    obtain⟨j,hj,rfl⟩:=mem_map.mp hk;have:=mem_range.mp hj;omega
   have O:=bq (x:=x / 8+k*(x / 211)) (m:=26) (by decide);exact⟨_,rfl,false,by simp[-da,-List.getD_eq_getElem?_getD,jk,CV];exact DL.lw O.1 (by rw[ig];omega) (by rw[yI,ig];omega)⟩
 let G:LS:=((List.range n).map λ(k:Nat)=>(k:Int)).map λk=>⟨#[dA.cps.toList.getD ((x / 8+k*(x / 211)) % 26).toNat 0]⟩;have T:(G.map (·.length)).sum=n:=by
  have:=sL ((List.range n).map λ(k:Nat)=>(k:Int)) (λk=>(⟨#[dA.cps.toList.getD ((x / 8+k*(x / 211)) % 26).toNat 0]⟩:Str)) λy _=>rfl;rw[vI,length_range]at this;exact this
 have e0:(("" : Str)).length=0:=by decide +kernel
 have zh:G≠[]:=λz=>by have:=congrArg List.length z;simp[G]at this;omega
 have U:(Txt.join ("" : Str) G).cps.toList=((List.range n).map λ(k:Nat)=>dA.cps.toList.getD ((x / 8+(k:Int)*(x / 211)) % 26).toNat 0):=by
  rw[t8 zh];show List.flatMap _ (List.map _ (List.map _ (List.range n)))=_;rw[map_map,List.flatMap_map,←List.flatMap_singleton' (List.map _ _),List.flatMap_map];rfl
 have Fq:iL (Txt.join ("" : Str) G)=true:=by
  unfold iL;have tJ:(Txt.join ("" : Str) G).length=n:=by rw[←hW,U,vI,length_range]
  rw[tJ,U,vD,vD,all_eq_true];refine⟨⟨decide_eq_true (by omega),decide_eq_true (by omega)⟩,λc hc=>?_⟩;obtain⟨k,_,rfl⟩:=mem_map.mp hc;have O:=bq (x:=x / 8+(k:Int)*(x / 211)) (m:=26) (by decide);exact t9 ⟨((x / 8+(k:Int)*(x / 211)) % 26).toNat,by omega⟩
 refine⟨Txt.join ("" : Str) G,ar rfl (bu (d:=.str dA) (b:=false) rfl rfl (ao ?_)),Fq⟩;show((bC _ _ _ _ _ _ [some (D.int x,false),some (.str dA,false)]).bind _)=_;rw[M];have hm:(((List.range n).map λ(k:Nat)=>(k:Int)).map λk=>D.str ⟨#[dA.cps.toList.getD ((x / 8+k*(x / 211)) % 26).toNat 0]⟩)=G.map D.str:=by simp[G]
 rw[hm];simp only[vJ,gX,qB];rw[T,e0,if_pos (by omega)]
def tE {a b:Int}(ha : -18446744073709551616<a/\a<18446744073709551616)(hb : -18446744073709551616<b/\b<18446744073709551616):fN (.int a) (.int b)=some (.int (a*b),false):=by simp[ha,hb]
def kP (c:Int)(s m:Nat)(hs:s<=100)(hm:m<=100):∃xs:LI,gJ [.int c,.int s,.int m]=some (.lst (xs.map .int),true)/\xs.length=m/\∀x∈xs,0<=x/\x<2147483647:=by
 let E:LI->Int->OB->DL.Env:=λxs x v=>[some (.int c,false),some (.int s,false),some (.int m,false),some (.lst (xs.map .int),true),some (.int x,false),v];have U:=bq (x:=c) (m:=2147483647) (by decide);obtain⟨M,O⟩:∃M,(c % 2147483647*48271+(s:Int)*(s:Int)*69621+11) % 2147483647=M:=⟨_,rfl⟩;have T:=bq (x:=c % 2147483647*48271+(s:Int)*(s:Int)*69621+11) (m:=2147483647) (by decide);rw[O]at T;obtain⟨ρ',e,xs,x,v,rfl,hl,hx,G⟩:=jK (tg:=dX 5) (g:=iY) m (λi ρ=>∃xs x v,ρ=E xs x v/\xs.length=i/\(0<=x/\x<2147483647)/\∀y∈xs,0<=y/\y<2147483647) (E [] M none) ⟨[],M,none,rfl,rfl,T,by simp⟩ (by
  rintro i ρ hi ⟨xs,x,v,rfl,hl,hx,G⟩;obtain⟨y,hy⟩:∃y,(x*x+48271*x+(i:Int)+(s:Int)) % 2147483647=y:=⟨_,rfl⟩;have hb:=bq (x:=x*x+48271*x+(i:Int)+(s:Int)) (m:=2147483647) (by decide);rw[hy]at hb;refine⟨E xs x (some (.int i,false)),E (xs++[y]) y (some (.int i,false)),rfl,.inl (bu (d:=.int y) (b:=false) ?_ rfl ?_),_,_,_,rfl,by rw[vA,length_singleton,hl],hb,?_⟩
  ·refine a7 (x:=.int (x*x+48271*x+(i:Int)+(s:Int))) (y:=.int 2147483647) (b1:=false) (b2:=false) (a7 (x:=.int (x*x+48271*x+(i:Int))) (y:=.int s) (b1:=false) (b2:=false) (a7 (x:=.int (x*x+48271*x)) (y:=.int i) (b1:=false) (b2:=false) (a7 (x:=.int (x*x)) (y:=.int (48271*x)) (b1:=false) (b2:=false) (a7 (x:=.int x) (y:=.int x) (b1:=false) (b2:=false) rfl rfl (tE (by omega) (by omega))) (a7 (x:=.int 48271) (y:=.int x) (b1:=false) (b2:=false) rfl rfl (tE (by omega) (by omega))) rfl) rfl rfl) rfl rfl) rfl ?_;rw[←hy];rfl
  ·refine(oq (ds:=xs.map .int) (d:=.int y) (b:=false) rfl rfl rfl (fG (by rw[vI];omega))).trans ?_;simp[E]
  ·intro z hz;rcases mem_append.mp hz with h|h
   ·exact G z h
   ·rw[uU h];exact hb)
 refine⟨xs,ar rfl (jN (ds:=[]) rfl rfl (bu (d:=.int M) (b:=false) ?_ rfl (dj (jO (eZ (j:=m) (b:=false) rfl (by omega)) e) (pM rfl)))),hl,G⟩;refine a7 (x:=.int (c % 2147483647*48271+(s:Int)*(s:Int)*69621+11)) (y:=.int 2147483647) (b1:=false) (b2:=false) (a7 (x:=.int (c % 2147483647*48271+(s:Int)*(s:Int)*69621)) (y:=.int 11) (b1:=false) (b2:=false) (a7 (x:=.int (c % 2147483647*48271)) (y:=.int ((s:Int)*(s:Int)*69621)) (b1:=false) (b2:=false) (a7 (x:=.int (c % 2147483647)) (y:=.int 48271) (b1:=false) (b2:=false) (a7 (x:=.int c) (y:=.int 2147483647) (b1:=false) (b2:=false) rfl rfl rfl) rfl (tE (by omega) (by omega))) (a7 (x:=.int ((s:Int)*(s:Int))) (y:=.int 69621) (b1:=false) (b2:=false) (a7 (x:=.int s) (y:=.int s) (b1:=false) (b2:=false) rfl rfl (tE (by omega) (by omega))) rfl (tE ?_ (by omega))) rfl) rfl rfl) rfl ?_
 ·have h1:(s:Int)*(s:Int)<=100*100:=Int.mul_le_mul (by omega) (by omega) (by omega) (by omega);have h2:0<=(s:Int)*(s:Int):=Int.mul_nonneg (by omega) (by omega);omega
 ·rw[←O];rfl
def dg (ds:LD)(h:ds.length<=1000):aE ds=some (.tup ds,false):=by unfold aE;rw[if_pos (cy (by omega))]
def cK (ds:LD)(h:ds.length<=1000):b9 ds=some (.lst ds,true):=by unfold b9;rw[if_pos (cy (by omega))]
def eB (a:Int){m:Int}(h:0<m):bc (.int a) (.int m)=some (.int (a % m),false):=by simp[h]
def nu (a:Int){m:Int}(h:0<m)(h2:m<1073741824):cT (.int a) (.int m)=some (.int (a / m),false):=by simp[h,h2]
def C0 {ds:LD}{i:Int}{d:D}(h0:0<=i)(h:ds[i.toNat]? = some d):da (.lst ds) (.int i)=some (d,false):=by
 have:=yw h;rw[Int.toNat_of_nonneg h0]at this;show(iQ ds i).map _=_;rw[this];rfl
noncomputable def vt:Nat->D->Bool
 |_,.non=>true
 |_,.bl _=>true
 |_,.int _=>true
 |_,.str _=>true
 |n+1,.tup ds=>decide (ds.length<=100) && ds.all (vt n)
 |_,_=>false
structure Gd (n:Nat)(d:D):Prop where
 ok:Ok d
 fl:b8 d=true
 sm:vt n d=true
def bF (i:Int):Gd n (.int i):=⟨.int i,rfl,by cases n<;>rfl⟩
def tF:Gd n .non:=⟨.non,rfl,by cases n<;>rfl⟩
def tG {z:Str}(h:z.length<=1000):Gd n (.str z):=⟨.str z h,rfl,by cases n<;>rfl⟩
def iM (h:iL z=true):Gd n (.str z):=⟨AR h,rfl,by cases n<;>rfl⟩
def oH {ds:LD}(h:∀d∈ds,b8 d=true):cc ds=true:=by
 induction ds with
 |nil=>rfl
 |cons d r G=>simp[h d (by simp),G λe he=>h e (by simp[he])]
def c9 {ds:LD}(hl:ds.length<=100)(h:∀d∈ds,Gd n d):Gd (n+1) (.tup ds):=⟨.tup ds (by omega) λd hd=>(h d hd).ok,by rw[ip];exact oH λd hd=>(h d hd).fl,by
 show(decide (ds.length<=100) && ds.all (vt n))=true;rw[decide_eq_true hl,all_eq_true.mpr λd hd=>(h d hd).sm];rfl⟩
def nv (x y:Int):∃d,fZ [.int x,.int y]=some (d,false)/\bI d=true/\Gd 2 d:=by
 have m4:=bq (x:=x) (m:=4) (by decide);have M:=bq (x:=x / 4) (m:=20) (by decide);have O:=bq (x:=x / 4) (m:=9999) (by decide);obtain⟨s,es,U,s1⟩:∃s:Int,da (.lst [.int (x / 4 % 20),.int (x / 4 % 9999),.int 9998,.int 0]) (.int (x % 4))=some (.int s,false)/\0<=s/\s<=9998:=by
  have:x % 4=0∨x % 4=1∨x % 4=2∨x % 4=3:=by omega
  rcases this with h|h|h|h<;>rw[h]
  ·exact⟨_,rfl,M.1,by omega⟩
  ·exact⟨_,rfl,O.1,by omega⟩
  ·exact⟨_,rfl,by decide,by decide⟩
  ·exact⟨_,rfl,by decide,by decide⟩
 have T:f2 da (fA b9 (aa (f2 bc (f2 cT (ak 0) (fI 4)) (fI 20)) (aa (f2 bc (f2 cT (ak 0) (fI 4)) (fI 9999)) (aa (fI 9998) (aa (fI 0) ag))))) (f2 bc (ak 0) (fI 4)) [some (.int x,false),some (.int y,false),none]=some (.int s,false):=a7 (x:=.lst [.int (x / 4 % 20),.int (x / 4 % 9999),.int 9998,.int 0]) (y:=.int (x % 4)) (b1:=true) (b2:=false) (ae (ds:=[.int (x / 4 % 20),.int (x / 4 % 9999),.int 9998,.int 0]) (am (b:=false) (a7 (x:=.int (x / 4)) (y:=.int 20) (b1:=false) (b2:=false) (a7 (x:=.int x) (y:=.int 4) (b1:=false) (b2:=false) rfl rfl (nu _ (by decide) (by decide))) rfl (eB _ (by decide))) (am (b:=false) (a7 (x:=.int (x / 4)) (y:=.int 9999) (b1:=false) (b2:=false) (a7 (x:=.int x) (y:=.int 4) (b1:=false) (b2:=false) rfl rfl (nu _ (by decide) (by decide))) rfl (eB _ (by decide))) rfl)) (cK _ (by simp))) (a7 (x:=.int x) (y:=.int 4) (b1:=false) (b2:=false) rfl rfl (eB _ (by decide))) es;have t:aO (f2 cB (f2 bc (ak 1) (fI 3)) (fI 0)) [some (.int x,false),some (.int y,false),some (.int s,false)]=some (decide (y % 3=0)):=a9 (b:=false) (a7 (x:=.int (y % 3)) (y:=.int 0) (b1:=false) (b2:=false) (a7 (x:=.int y) (y:=.int 3) (b1:=false) (b2:=false) rfl rfl (eB _ (by decide))) rfl (qT _ _));have G:aw (.int s) 0 9999=true:=by rw[bE,decide_eq_true U,decide_eq_true (show s<=9999 by omega)];rfl
 cases hy:decide (y % 3=0) with
 |true=>
  rw[hy]at t;refine⟨.tup [.int s,.non],ar rfl (bu (d:=.int s) (b:=false) T rfl (aL t (ao (ae (ds:=[.int s,.non]) rfl (dg _ (by simp)))))),?_,c9 (by simp) λd hd=>?_⟩
  ·show(aw (.int s) 0 9999 && true)=true;rw[G];rfl
  ·simp only[mem_cons,not_mem_nil,or_false]at hd;rcases hd with rfl|rfl
   ·exact bF s
   ·exact tF
 |false=>
  rw[hy]at t;have mm:=bq (x:=y / 3) (m:=9999 - s) (by omega);have m2:=bq (x:=y / 9) (m:=2) (by decide);obtain⟨p,ep,p0,p1⟩:∃p:Int,da (.lst [.int (s+1+y / 3 % (9999 - s)),.int 9999]) (.int (y / 9 % 2))=some (.int p,false)/\s<p/\p<=9999:=by
   have:y / 9 % 2=0∨y / 9 % 2=1:=by omega
   rcases this with h|h<;>rw[h]
   ·exact⟨_,rfl,by omega,by omega⟩
   ·exact⟨_,rfl,by omega,by decide⟩
  have e3:f2 da (fA b9 (aa (f2 bG (f2 bG (ak 2) (fI 1)) (f2 bc (f2 cT (ak 1) (fI 3)) (f2 lD (fI 9999) (ak 2)))) (aa (fI 9999) ag))) (f2 bc (f2 cT (ak 1) (fI 9)) (fI 2)) [some (.int x,false),some (.int y,false),some (.int s,false)]=some (.int p,false):=a7 (x:=.lst [.int (s+1+y / 3 % (9999 - s)),.int 9999]) (y:=.int (y / 9 % 2)) (b1:=true) (b2:=false) (ae (ds:=[.int (s+1+y / 3 % (9999 - s)),.int 9999]) (am (b:=false) (a7 (x:=.int (s+1)) (y:=.int (y / 3 % (9999 - s))) (b1:=false) (b2:=false) rfl (a7 (x:=.int (y / 3)) (y:=.int (9999 - s)) (b1:=false) (b2:=false) (a7 (x:=.int y) (y:=.int 3) (b1:=false) (b2:=false) rfl rfl (nu _ (by decide) (by decide))) rfl (eB _ (by omega))) rfl) rfl) (cK _ (by simp))) (a7 (x:=.int (y / 9)) (y:=.int 2) (b1:=false) (b2:=false) (a7 (x:=.int y) (y:=.int 9) (b1:=false) (b2:=false) rfl rfl (nu _ (by decide) (by decide))) rfl (eB _ (by decide))) ep;refine⟨.tup [.int s,.int p],ar rfl (bu (d:=.int s) (b:=false) T rfl (ax t (ao (ae (ds:=[.int s,.int p]) (am (b:=false) rfl (am e3 rfl)) (dg _ (by simp)))))),?_,c9 (by simp) λd hd=>?_⟩
  ·show(aw (.int s) 0 9999 && ((decide (0<=p) && decide (p<=9999)) && decide (s<p)))=true;rw[G,decide_eq_true (show 0<=p by omega),decide_eq_true p1,decide_eq_true p0];rfl
  ·simp only[mem_cons,not_mem_nil,or_false]at hd;rcases hd with rfl|rfl
   ·exact bF s
   ·exact bF p
abbrev Ch:=Nat×Str
def oI (c:Ch):D:=.tup [.int (c.1:Int),.str c.2]
structure ChOk (cs:List Ch):Prop where
 len:cs.length<=8
 at':∀c∈cs,c.1<8/\iL c.2=true
 inc:cs.Pairwise λa b=>a.1<b.1
def AS (l:LD)(a:Nat):c8 l none (some (a:Int))=l.take a:=by
 unfold c8;have G:HT.cu l.length 0 none=0:=rfl;rw[G,dZ (by omega),Int.toNat_natCast,drop_zero,Nat.sub_zero];by_cases h:a<=l.length
 ·rw[Nat.min_eq_left h]
 ·rw[Nat.min_eq_right (by omega),take_of_length_le (vT _),take_of_length_le (by omega)]
def vv (l:LD)(a:Nat):c8 l (some (a:Int)) none=l.drop a:=by
 unfold c8;have G:HT.cu l.length l.length none=l.length:=rfl;rw[G,dZ (by omega),Int.toNat_natCast];by_cases h:a<=l.length
 ·rw[Nat.min_eq_left h,take_of_length_le (by simp)]
 ·rw[Nat.min_eq_right (by omega),Nat.sub_self,List.take_zero,List.drop_eq_nil_of_le (by omega)]
def yJ {cs:List Ch}(h:ChOk cs):de (.tup (cs.map oI))=true:=by
 show((cs.map oI).all cb && sV ((cs.map oI).map bv))=true;rw[vD];constructor
 ·rw[all_eq_true];intro d hd;obtain⟨c,hc,rfl⟩:=mem_map.mp hd;obtain⟨h1,h2⟩:=h.at' c hc;show(aw (.int (c.1:Int)) 0 7 && aH (.str c.2))=true;rw[bE,vq,h2,decide_eq_true (show(0:Int)<=(c.1:Int) by omega),decide_eq_true (show(c.1:Int)<=7 by omega)];rfl
 ·have:∀l:List Ch,l.Pairwise (λa b=>a.1<b.1)->sV ((l.map oI).map bv)=true:=λl hl=>by
   induction l with
   |nil=>rfl
   |cons a l G=>
    cases l with
    |nil=>rfl
    |cons b l=>
     rw[List.pairwise_cons]at hl;show(decide ((a.1:Int)<(b.1:Int)) && sV (((b::l).map oI).map bv))=true;rw[G hl.2,decide_eq_true (show(a.1:Int)<(b.1:Int) by have:=hl.1 b (by simp);omega)];rfl
  exact this cs h.inc
def AT {cs:List Ch}(h:ChOk cs):Gd 2 (.tup (cs.map oI)):=c9 (by rw[vI];have:=h.len;omega) λd hd=>by
 obtain⟨c,hc,rfl⟩:=mem_map.mp hd;refine c9 (by simp) λd hd=>?_;simp only[mem_cons,not_mem_nil,or_false]at hd;rcases hd with rfl|rfl
 ·exact bF _
 ·exact iM (h.at' c hc).2
def nw (xs:LI)(hl:xs.length=8)(hx:∀x∈xs,0<=x):∃cs:List Ch,dG [.lst (xs.map .int)]=some (.tup (cs.map oI),false)/\ChOk cs:=by
 let E:List Ch->Nat->OB->DL.Env:=λcs p v=>[some (.lst (xs.map .int),false),some (.lst (cs.map oI),true),some (.int (p:Int),false),v];obtain⟨ρ',e,cs,p,v,rfl,h1,h2,h3,h4,h5⟩:=mP (tg:=dX 3) (g:=hU) (λi ρ=>∃cs p v,ρ=E cs p v/\cs.length<=i/\(∀c∈cs,c.1<8/\iL c.2=true)/\cs.Pairwise (λa b=>a.1<b.1)/\(∀c∈cs,c.1<p)/\p<=3*i) (xs.map .int) (E [] 0 none) ⟨[],0,none,rfl,vT _,by simp,List.Pairwise.nil,by simp,vT _⟩ (by
  rintro i d ρ hd ⟨cs,p,v,rfl,h1,h2,h3,h4,h5⟩;rw[vB]at hd;obtain⟨x,O,rfl⟩:=oY hd;have hi:i<xs.length:=(vV O).1;have hm:=bq (x:=x) (m:=3) (by decide);obtain⟨a,ha⟩:∃a:Nat,x % 3=(a:Int):=⟨(x % 3).toNat,by omega⟩;obtain⟨z,ez,hz⟩:=jX (x / 3);let F:List Ch->Nat->DL.Env:=λcs p=>E cs p (some (.int x,false));have s1:f2 bG (ak 2) (f2 bc (ak 3) (fI 3)) (F cs p)=some (.int ((p+a:Nat):Int),false):=a7 (x:=.int (p:Int)) (y:=.int (a:Int)) (b1:=false) (b2:=false) rfl (a7 (x:=.int x) (y:=.int 3) (b1:=false) (b2:=false) rfl rfl (by rw[eB _ (by decide),ha])) (by simp);have t:aO (f2 p9 (ak 2) (fI 8)) (F cs (p+a))=some (decide (p+a<8)):=a9 (b:=false) (a7 (x:=.int ((p+a:Nat):Int)) (y:=.int 8) (b1:=false) (b2:=false) rfl rfl (by
   show some (D.bl (decide (((p+a:Nat):Int)<8)),false)=_;congr 3;exact decide_eq_decide.mpr (by omega)))
  have U:∀G,ba 2 (f2 bG (ak 2) (fI 1)) (F G (p+a))=some (.nx (F G (p+a+1))):=λG=>eY (d:=.int ((p+a+1:Nat):Int)) (b:=false) (a7 (x:=.int ((p+a:Nat):Int)) (y:=.int 1) (b1:=false) (b2:=false) rfl rfl (by simp)) rfl;by_cases M:p+a<8
  ·rw[decide_eq_true M]at t;refine⟨F cs p,F (cs++[(p+a,z)]) (p+a+1),rfl,.inl (bu (d:=.int ((p+a:Nat):Int)) (b:=false) s1 rfl (dj (ρ':=F (cs++[(p+a,z)]) (p+a)) (mQ t ?_) (U _))),_,_,_,rfl,by simp;omega,?_,?_,?_,by omega⟩
   ·refine(oq (ds:=cs.map oI) (d:=oI (p+a,z)) (b:=false) rfl (ae (ds:=[.int ((p+a:Nat):Int),.str z]) (am (b:=false) rfl (am (ae (ds:=[.int (x / 3)]) (am (b:=false) (a7 (x:=.int x) (y:=.int 3) (b1:=false) (b2:=false) rfl rfl (by simp)) rfl) ez) rfl)) (dg _ (by simp))) rfl (fG (by rw[vI];omega))).trans ?_;simp[F,E]
   ·intro c hc;rcases mem_append.mp hc with h|h
    ·exact h2 c h
    ·rw[uU h];exact⟨M,hz⟩
   ·rw[List.pairwise_append];refine⟨h3,List.pairwise_singleton _ _,λc hc b hb=>?_⟩;rw[uU hb];have:=h4 c hc;show c.1<p+a;omega
   ·intro c hc;rcases mem_append.mp hc with h|h
    ·have:=h4 c h;omega
    ·rw[uU h];exact Nat.lt_succ_self _
  ·rw[decide_eq_false M]at t;exact⟨F cs p,F cs (p+a+1),rfl,.inl (bu (d:=.int ((p+a:Nat):Int)) (b:=false) s1 rfl (dj (ρ':=F cs (p+a)) (lL t rfl) (U _))),_,_,_,rfl,by omega,h2,h3,λc hc=>by have:=h4 c hc;omega,by omega⟩)
 rw[vI]at h1;have T:(xs.map D.int)[0]? = some (.int (xs.getD 0 0)):=by
  rw[vB,List.getD_eq_getElem?_getD,getElem?_eq_getElem (by omega)];rfl
 have m9:=bq (x:=xs.getD 0 0 / 7) (m:=9) (by decide);obtain⟨n,hn⟩:∃n:Nat,xs.getD 0 0 / 7 % 9=(n:Int):=⟨(xs.getD 0 0 / 7 % 9).toNat,by omega⟩;refine⟨cs.take n,ar rfl (jN (ds:=[]) rfl rfl (bu (d:=.int 0) (b:=false) rfl rfl (dj (pN (ds:=xs.map .int) rfl e) (ao (ae (ds:=[.lst ((cs.take n).map oI)]) (am (b:=true) ?_ rfl) rfl))))),⟨by rw[length_take];omega,λc hc=>h2 c (mem_of_mem_take hc),h3.sublist (List.take_sublist _ _)⟩⟩;have e0:bj (f2 bc (f2 cT (be 0 0) (fI 7)) (fI 9)) (E cs p v)=some (some (n:Int)):=by
  unfold bj;rw[show f2 bc (f2 cT (be 0 0) (fI 7)) (fI 9) (E cs p v)=some (.int (n:Int),false)from a7 (x:=.int (xs.getD 0 0 / 7)) (y:=.int 9) (b1:=false) (b2:=false) (a7 (x:=.int (xs.getD 0 0)) (y:=.int 7) (b1:=false) (b2:=false) (a7 (x:=.lst (xs.map .int)) (y:=.int 0) (b1:=false) (b2:=false) rfl rfl (C0 (by decide) T)) rfl (nu _ (by decide) (by decide))) rfl (by rw[eB _ (by decide),hn])]
 unfold gF;rw[show ak 1 (E cs p v)=some (.lst (cs.map oI),false)from rfl,vJ,show cP (E cs p v)=some none from rfl,vJ,e0];show some (D.lst (c8 (cs.map oI) none (some (n:Int))),true)=_;rw[AS,map_take]
def qd {xs:LI}{ρ:DL.Env}{i n:Nat}{b:Bool}(e:ρ[i]? = some (some (.lst (xs.map .int),b)))(h:n<xs.length):be i (n:Int) ρ=some (.int (xs.getD n 0),false):=a7 (x:=.lst (xs.map .int)) (y:=.int (n:Int)) (b1:=false) (b2:=false) (o0 e) rfl ((pR (xs:=xs) (i:=(n:Int)) (by omega) (by simpa using h)).trans (by rw[Int.toNat_natCast]))
def lO (xs:LI)(a b:Nat)(G:a<=b)(hb:b<=xs.length):∃ys:LI,c8 (xs.map .int) (some (a:Int)) (some (b:Int))=ys.map .int/\ys.length=b - a/\∀y∈ys,y∈xs:=by
 refine⟨sM xs (some (a:Int)) (some (b:Int)),mR _ _ _ _,?_,λy hy=>List.mem_of_mem_drop (mem_of_mem_take hy)⟩;unfold sM;rw[dZ (by omega),dZ (by omega),Int.toNat_natCast,Int.toNat_natCast,length_take,length_drop];omega
def gC {l:LD}(h:Gd n d)(t:∀x∈l,Gd n x):∀x∈d::l,Gd n x:=λx hx=>by
 rcases mem_cons.mp hx with rfl|hx
 ·exact h
 ·exact t x hx
def gN:∀x∈([]:LD),Gd n x:=λx hx=>by cases hx
def lP {w:Str}(h:decide (w.length<=1000)=true):Gd n (.str w):=tG (of_decide_eq_true h)
inductive GDd:D->Prop
 |root {a:D}{r:List D}(g:Gd 3 (.tup (.str "root" :: a::r))) (f:fu 0 [110,109,102,114] (a::r)=true):GDd (.tup (.str "root" :: a::r))
 |oth {w:Str}(z:Str) (cs:List Nat) {day:Int}{r:List D}(g:Gd 3 (.tup (.str w::.int day::r))) (hw:decide (w=("root" : Str))=false) (h0:0<=day) (h1:day<=9999) (hz:eX (jo w) (.str z)=true) (hc:z.cps.toList=cs) (f:fu day cs r=true):GDd (.tup (.str w::.int day::r))
def oJ:FS :=
  (ay (bU (aO (f2 cB (ak 10) (fI 0))) (aD (fA aE (aa (fS "root") (fV 2 (fV 5 (fV 6 (aa (f2 da (fA b9 (aa (fS "open") (aa (fS "first") (aa (fS "last") ag)))) (f2 bc (be 0 9) (fI 3))) ag))))))) aA)
  (ay (bU (aO (f2 cB (ak 10) (fI 1))) (aD (fA aE (aa (fS "chosen") (fV 1 (fV 2 (fV 3 (fV 4 (aa (fA rY (aa (fI 9999) (aa (f2 bG (ak 1) (f2 bc (be 0 9) (fI 3))) ag))) ag)))))))) aA)
  (ay (bU (aO (f2 cB (ak 10) (fI 2))) (aD (fA aE (aa (fS "leave") (fV 1 (fV 2 (fV 3 (fV 5 (fV 8 (fV 6 ag))))))))) aA)
  (ay (bU (aO (f2 cB (ak 10) (fI 3))) (aD (fA aE (aa (fS "paper") (fV 1 (fV 2 (fV 5 (fV 8 (fV 9 (aa (fA bZ (aa (bC (dO (gF (ak 0) (bj (fI 10)) (bj (f2 bG (fI 11) (f2 bc (f2 cT (be 0 9) (fI 2)) (fI 8)))))) 1 [] (dX 0) cO (fA db (fV 0 ag))) ag)) ag))))))))) aA)
  (ay (bU (aO (f2 cB (ak 10) (fI 4))) (aD (fA aE (aa (fS "like") (fV 1 (fV 2 (fV 5 (fV 8 (fV 9 (fV 7 (aa (fA dG (aa (gF (ak 0) (bj (fI 10)) (bj (fI 18))) ag)) ag)))))))))) aA)
  (ay (bU (aO (f2 p9 (ak 10) (fI 7))) (aD (fA aE (aa (f2 da (fA b9 (aa (fS "copy") (aa (fS "call") ag))) (f2 lD (ak 10) (fI 5))) (fV 1 (fV 2 (fV 7 ag)))))) aA)
  (ay (bU (aO (f2 p9 (ak 10) (fI 10))) (aD (fA aE (aa (f2 da (fA b9 (aa (fS "death") (aa (fS "lost") (aa (fS "found") ag)))) (f2 lD (ak 10) (fI 7))) (fV 1 (fV 2 ag))))) aA)
  (ay (bU (aO (f2 cB (ak 10) (fI 10))) (aD (fA aE (aa (fS "heir") (fV 1 (fV 2 (fV 3 (fV 4 ag))))))) aA)
  (aD (fA aE (aa (fS "named") (fV 1 (fV 2 (fV 3 ag))))))))))))))
section
variable {xs:LI}(hl:xs.length=34) (hx:∀x∈xs,0<=x) {day qe sm qU:Int}{n1 n2 n3:Str}{part eQ:D}(d0:0<=day) (d1:day<=9999) (h1:iL n1=true) (h2:iL n2=true) (h3:iL n3=true) (fm:aw (.int qe) 1 255=true) (fs:aw (.int sm) 0 9=true) (fo:aw (.int qU) 0 59=true) (fp:bI part=true) (gp:Gd 2 part) (fw:lh eQ=true) (gw:Gd 2 eQ)
include hl hx d0 d1 h1 h2 h3 fm fs fo fp gp fw gw
theorem qP (G:Int)(w0:0<=G)(w1:G<12):∃d,oJ [some (.lst (xs.map .int),false),some (.int day,false),some (.str n1,false),some (.str n2,false),some (.str n3,false),some (.int qe,false),some (.int sm,false),some (.int qU,false),some (part,false),some (eQ,false),some (.int G,false)]=some (.rt d false)/\GDd d:=by
 have i9:∀ {Fs:OB},be 0 ((9:Nat):Int) [some (.lst (xs.map .int),false),some (.int day,false),some (.str n1,false),some (.str n2,false),some (.str n3,false),some (.int qe,false),some (.int sm,false),some (.int qU,false),some (part,false),some (eQ,false),Fs]=some (.int (xs.getD 9 0),false):=qd rfl (by omega);have te:∀k:Int,aO (f2 cB (ak 10) (fI k)) [some (.lst (xs.map .int),false),some (.int day,false),some (.str n1,false),some (.str n2,false),some (.str n3,false),some (.int qe,false),some (.int sm,false),some (.int qU,false),some (part,false),some (eQ,false),some (.int G,false)]=some (decide (G=k)):=λk=>a9 (b:=false) (a7 (x:=.int G) (y:=.int k) (b1:=false) (b2:=false) rfl rfl (qT _ _));have tl:∀k:Int,aO (f2 p9 (ak 10) (fI k)) [some (.lst (xs.map .int),false),some (.int day,false),some (.str n1,false),some (.str n2,false),some (.str n3,false),some (.int qe,false),some (.int sm,false),some (.int qU,false),some (part,false),some (eQ,false),some (.int G,false)]=some (decide (G<k)):=λk=>a9 (b:=false) (a7 (x:=.int G) (y:=.int k) (b1:=false) (b2:=false) rfl rfl rfl);have g1:Gd 2 (.str n1):=iM h1;have g2:Gd 2 (.str n2):=iM h2;have g3:Gd 2 (.str n3):=iM h3;have k1:aH (.str n1)=true:=h1;have k2:aH (.str n2)=true:=h2;have k3:aH (.str n3)=true:=h3;generalize M:([some (.lst (xs.map .int),false),some (.int day,false),some (.str n1,false),some (.str n2,false),some (.str n3,false),some (.int qe,false),some (.int sm,false),some (.int qU,false),some (part,false),some (eQ,false),some (.int G,false)]:DL.Env)=ρ at te tl;have T:=te 0;by_cases c0:G=0
 ·rw[decide_eq_true c0]at T;have m3:=bq (x:=xs.getD 9 0) (m:=3) (by decide);obtain⟨rl,er,hr⟩:∃rl:Str,da (.lst [.str "open",.str "first",.str "last"]) (.int (xs.getD 9 0 % 3))=some (.str rl,false)/\rl∈eO:=by
   have:xs.getD 9 0 % 3=0∨xs.getD 9 0 % 3=1∨xs.getD 9 0 % 3=2:=by omega
   rcases this with h|h|h<;>rw[h]
   ·exact⟨_,rfl,by decide +kernel⟩
   ·exact⟨_,rfl,by decide +kernel⟩
   ·exact⟨_,rfl,by decide +kernel⟩
  have Ft:rl.length<=1000:=by
   have:∀z∈eO,z.length<=1000:=by decide +kernel
   exact this rl hr
  refine⟨_,aL T (ao (ae (ds:=[.str "root",.str n1,.int qe,.int sm,.str rl]) ?_ (dg _ (by simp)))),.root (c9 (by simp) (gC (lP (by decide +kernel)) (gC g1 (gC (bF _) (gC (bF _) (gC (tG Ft) gN)))))) ?_⟩
  ·subst M;exact am (b:=false) rfl (am (b:=false) rfl (am (b:=false) rfl (am (b:=false) rfl (am (b:=false) (a7 (x:=.lst [.str "open",.str "first",.str "last"]) (y:=.int (xs.getD 9 0 % 3)) (b1:=true) (b2:=false) (ae (ds:=[.str "open",.str "first",.str "last"]) rfl (cK _ (by simp))) (a7 (x:=.int (xs.getD 9 0)) (y:=.int 3) (b1:=false) (b2:=false) i9 rfl (eB _ (by decide))) er) rfl))))
  ·show(aP _ _ 0 && (aP _ _ 0 && (aP _ _ 0 && (aP _ _ 0 && true))))=true;rw[eP,tp,y3,AM,k1,fm,fs,show ia (.str rl)=true from decide_eq_true hr];rfl
 rw[decide_eq_false c0]at T;have U:=te 1;by_cases c1:G=1
 ·rw[decide_eq_true c1]at U;have m3:=bq (x:=xs.getD 9 0) (m:=3) (by decide);obtain⟨s,es,s0,s1⟩:∃s:Int,rY [.int 9999,.int (day+xs.getD 9 0 % 3)]=some (.int s,false)/\day<=s/\s<=9999:=by
   refine⟨if day+xs.getD 9 0 % 3<9999 then day+xs.getD 9 0 % 3 else 9999,rfl,?_,?_⟩<;>split<;>omega
  refine⟨_,ax T (aL U (ao (ae (ds:=[.str "chosen",.int day,.str n1,.str n2,.str n3,.int s]) ?_ (dg _ (by simp))))),.oth ("nnnd" : Str) [110,110,110,100] (c9 (by simp) (gC (lP (by decide +kernel)) (gC (bF _) (gC g1 (gC g2 (gC g3 (gC (bF _) gN))))))) (by decide +kernel) d0 d1 (by decide +kernel) (by decide +kernel) ?_⟩
  ·subst M;exact am (b:=false) rfl (am (b:=false) rfl (am (b:=false) rfl (am (b:=false) rfl (am (b:=false) rfl (am (b:=false) (ae (ds:=[.int 9999,.int (day+xs.getD 9 0 % 3)]) (am (b:=false) rfl (am (b:=false) (a7 (x:=.int day) (y:=.int (xs.getD 9 0 % 3)) (b1:=false) (b2:=false) rfl (a7 (x:=.int (xs.getD 9 0)) (y:=.int 3) (b1:=false) (b2:=false) i9 rfl (eB _ (by decide))) rfl) rfl)) es) rfl)))))
  ·show(aP _ _ day && (aP _ _ day && (aP _ _ day && (aP _ _ day && true))))=true;rw[eP,eP,eP,AJ,k1,k2,k3,bE,decide_eq_true s0,decide_eq_true s1];rfl
 rw[decide_eq_false c1]at U;have t2:=te 2;by_cases c2:G=2
 ·rw[decide_eq_true c2]at t2;refine⟨_,ax T (ax U (aL t2 (ao (ae (ds:=[.str "leave",.int day,.str n1,.str n2,.int qe,part,.int sm]) (by subst M;rfl) (dg _ (by simp)))))),.oth ("nnmsf" : Str) [110,110,109,115,102] (c9 (by simp) (gC (lP (by decide +kernel)) (gC (bF _) (gC g1 (gC g2 (gC (bF _) (gC gp (gC (bF _) gN)))))))) (by decide +kernel) d0 d1 (by decide +kernel) (by decide +kernel) ?_⟩;show(aP _ _ day && (aP _ _ day && (aP _ _ day && (aP _ _ day && (aP _ _ day && true)))))=true;rw[eP,eP,tp,vg,y3,k1,k2,fm,fp,fs];rfl
 rw[decide_eq_false c2]at t2;have t3:=te 3;by_cases c3:G=3
 ·rw[decide_eq_true c3]at t3;obtain⟨nf,CW⟩:=Classical.axiomOfChoice jX;have m8:=bq (x:=xs.getD 9 0 / 2) (m:=8) (by decide);obtain⟨k,hk⟩:∃k:Nat,xs.getD 9 0 / 2 % 8=(k:Int):=⟨(xs.getD 9 0 / 2 % 8).toNat,by omega⟩;obtain⟨ys,ey,yl,_⟩:=lO xs 10 (11+k) (by omega) (by omega);have ec:bC (dO (gF (ak 0) (bj (fI 10)) (bj (f2 bG (fI 11) (f2 bc (f2 cT (be 0 9) (fI 2)) (fI 8)))))) 1 [] (dX 0) cO (fA db (fV 0 ag)) ρ=some (.lst (ys.map λy=>.str (nf y)),true):=by
   refine iT (tg:=dX 0) ys .int (λy=>.str (nf y)) ?_ (by omega) λy _=>⟨_,rfl,false,ae (ds:=[.int y]) rfl (CW y).1⟩;subst M;have eo:bj (f2 bG (fI 11) (f2 bc (f2 cT (be 0 9) (fI 2)) (fI 8))) [some (.lst (xs.map .int),false),some (.int day,false),some (.str n1,false),some (.str n2,false),some (.str n3,false),some (.int qe,false),some (.int sm,false),some (.int qU,false),some (part,false),some (eQ,false),some (.int G,false)]=some (some ((11+k:Nat):Int)):=by
    unfold bj;rw[show f2 bG (fI 11) (f2 bc (f2 cT (be 0 9) (fI 2)) (fI 8)) [some (.lst (xs.map .int),false),some (.int day,false),some (.str n1,false),some (.str n2,false),some (.str n3,false),some (.int qe,false),some (.int sm,false),some (.int qU,false),some (part,false),some (eQ,false),some (.int G,false)]=some (.int ((11+k:Nat):Int),false)from a7 (x:=.int 11) (y:=.int (k:Int)) (b1:=false) (b2:=false) rfl (a7 (x:=.int (xs.getD 9 0 / 2)) (y:=.int 8) (b1:=false) (b2:=false) (a7 (x:=.int (xs.getD 9 0)) (y:=.int 2) (b1:=false) (b2:=false) i9 rfl (nu _ (by decide) (by decide))) rfl (by rw[eB _ (by decide),hk])) (by show some (D.int (11+(k:Int)),false)=_;rw[Int.natCast_add];rfl)]
   unfold dO gF;rw[eo];show(some (D.lst (c8 (xs.map .int) (some 10) (some ((11+k:Nat):Int))),true)).bind _=_;rw[show c8 (xs.map D.int) (some 10) (some ((11+k:Nat):Int))=ys.map .int from ey];rfl
  refine⟨_,ax T (ax U (ax t2 (aL t3 (ao (ae (ds:=[.str "paper",.int day,.str n1,.int qe,part,eQ,.tup (ys.map λy=>.str (nf y))]) ?_ (dg _ (by simp))))))),.oth ("nmswp" : Str) [110,109,115,119,112] (c9 (by simp) (gC (lP (by decide +kernel)) (gC (bF _) (gC g1 (gC (bF _) (gC gp (gC gw (gC (c9 (by rw[vI];omega) λd hd=>by obtain⟨y,_,rfl⟩:=mem_map.mp hd;exact iM (CW y).2) gN)))))))) (by decide +kernel) d0 d1 (by decide +kernel) (by decide +kernel) ?_⟩
  ·have e7:fA bZ (aa (bC (dO (gF (ak 0) (bj (fI 10)) (bj (f2 bG (fI 11) (f2 bc (f2 cT (be 0 9) (fI 2)) (fI 8)))))) 1 [] (dX 0) cO (fA db (fV 0 ag))) ag) ρ=some (.tup (ys.map λy=>.str (nf y)),false):=ae (ds:=[.lst (ys.map λy=>.str (nf y))]) (am ec rfl) rfl;subst M;exact am (b:=false) rfl (am (b:=false) rfl (am (b:=false) rfl (am (b:=false) rfl (am (b:=false) rfl (am (b:=false) rfl (am e7 rfl))))))
  ·show(aP _ _ day && (aP _ _ day && (aP _ _ day && (aP _ _ day && (aP _ _ day && true)))))=true;rw[eP,tp,vg,y0,AL,k1,fm,fp,fw];show(true && (true && (true && (true && (((decide (1<=(ys.map λy=>D.str (nf y)).length) && decide ((ys.map λy=>D.str (nf y)).length<=8)) && (ys.map λy=>D.str (nf y)).all aH) && true)))))=true;rw[vI,decide_eq_true (show 1<=ys.length by omega),decide_eq_true (show ys.length<=8 by omega),all_map,all_eq_true.mpr (show ∀y∈ys,(aH ∘ λy=>D.str (nf y)) y=true from λy _=>(CW y).2)];rfl
 rw[decide_eq_false c3]at t3;have t4:=te 4;by_cases c4:G=4
 ·rw[decide_eq_true c4]at t4;obtain⟨ys,ey,yl,ym⟩:=lO xs 10 18 (by omega) (by omega);obtain⟨cs,ec,ok⟩:=nw ys (by omega) λy hy=>hx y (ym y hy);refine⟨_,ax T (ax U (ax t2 (ax t3 (aL t4 (ao (ae (ds:=[.str "like",.int day,.str n1,.int qe,part,eQ,.int qU,.tup (cs.map oI)]) ?_ (dg _ (by simp)))))))),.oth ("nmswoc" : Str) [110,109,115,119,111,99] (c9 (by simp) (gC (lP (by decide +kernel)) (gC (bF _) (gC g1 (gC (bF _) (gC gp (gC gw (gC (bF _) (gC (AT ok) gN))))))))) (by decide +kernel) d0 d1 (by decide +kernel) (by decide +kernel) ?_⟩
  ·have e8:fA dG (aa (gF (ak 0) (bj (fI 10)) (bj (fI 18))) ag) ρ=some (.tup (cs.map oI),false):=by
    subst M;refine ae (ds:=[.lst (ys.map .int)]) (am (b:=true) ?_ rfl) ec;show some (D.lst (c8 (xs.map .int) (some 10) (some 18)),true)=_;rw[show c8 (xs.map D.int) (some 10) (some 18)=ys.map .int from ey]
   subst M;exact am (b:=false) rfl (am (b:=false) rfl (am (b:=false) rfl (am (b:=false) rfl (am (b:=false) rfl (am (b:=false) rfl (am (b:=false) rfl (am e8 rfl)))))))
  ·show(aP _ _ day && (aP _ _ day && (aP _ _ day && (aP _ _ day && (aP _ _ day && (aP _ _ day && true))))))=true;rw[eP,tp,vg,y0,y4,AK,k1,fm,fp,fw,fo,yJ ok];rfl
 rw[decide_eq_false c4]at t4;have t5:=tl 7;by_cases c5:G<7
 ·rw[decide_eq_true c5]at t5;have O:∀w:Str,da (.lst [.str "copy",.str "call"]) (.int (G - 5))=some (.str w,false)->eX (jo w) (.str "no")=true->decide (w=("root" : Str))=false->decide (w.length<=1000)=true->∃d,oJ ρ=some (.rt d false)/\GDd d:=λw ew hz hr hwl=>by
   refine⟨_,ax T (ax U (ax t2 (ax t3 (ax t4 (aL t5 (ao (ae (ds:=[.str w,.int day,.str n1,.int qU]) ?_ (dg _ (by simp))))))))),.oth ("no" : Str) [110,111] (c9 (by simp) (gC (lP hwl) (gC (bF _) (gC g1 (gC (bF _) gN))))) hr d0 d1 hz (by decide +kernel) ?_⟩
   ·subst M;exact am (b:=false) (a7 (x:=.lst [.str "copy",.str "call"]) (y:=.int (G - 5)) (b1:=true) (b2:=false) (ae (ds:=[.str "copy",.str "call"]) rfl (cK _ (by simp))) (a7 (x:=.int G) (y:=.int 5) (b1:=false) (b2:=false) rfl rfl rfl) ew) rfl
   ·show(aP _ _ day && (aP _ _ day && true))=true;rw[eP,y4,k1,fo];rfl
  have:G=5∨G=6:=by omega
  rcases this with h|h
  ·exact O ("copy" : Str) (by rw[h];rfl) (by decide +kernel) (by decide +kernel) (by decide +kernel)
  ·exact O ("call" : Str) (by rw[h];rfl) (by decide +kernel) (by decide +kernel) (by decide +kernel)
 rw[decide_eq_false c5]at t5;have t6:=tl 10;by_cases c6:G<10
 ·rw[decide_eq_true c6]at t6;have O:∀w:Str,da (.lst [.str "death",.str "lost",.str "found"]) (.int (G - 7))=some (.str w,false)->eX (jo w) (.str "n")=true->decide (w=("root" : Str))=false->decide (w.length<=1000)=true->∃d,oJ ρ=some (.rt d false)/\GDd d:=λw ew hz hr hwl=>by
   refine⟨_,ax T (ax U (ax t2 (ax t3 (ax t4 (ax t5 (aL t6 (ao (ae (ds:=[.str w,.int day,.str n1]) ?_ (dg _ (by simp)))))))))),.oth ("n" : Str) [110] (c9 (by simp) (gC (lP hwl) (gC (bF _) (gC g1 gN)))) hr d0 d1 hz (by decide +kernel) ?_⟩
   ·subst M;exact am (b:=false) (a7 (x:=.lst [.str "death",.str "lost",.str "found"]) (y:=.int (G - 7)) (b1:=true) (b2:=false) (ae (ds:=[.str "death",.str "lost",.str "found"]) rfl (cK _ (by simp))) (a7 (x:=.int G) (y:=.int 7) (b1:=false) (b2:=false) rfl rfl rfl) ew) rfl
   ·show(aP _ _ day && true)=true;rw[eP,k1];rfl
  have:G=7∨G=8∨G=9:=by omega
  rcases this with h|h|h
  ·exact O ("death" : Str) (by rw[h];rfl) (by decide +kernel) (by decide +kernel) (by decide +kernel)
  ·exact O ("lost" : Str) (by rw[h];rfl) (by decide +kernel) (by decide +kernel) (by decide +kernel)
  ·exact O ("found" : Str) (by rw[h];rfl) (by decide +kernel) (by decide +kernel) (by decide +kernel)
 rw[decide_eq_false c6]at t6;have t7:=te 10;by_cases c7:G=10
 ·rw[decide_eq_true c7]at t7;refine⟨_,ax T (ax U (ax t2 (ax t3 (ax t4 (ax t5 (ax t6 (aL t7 (ao (ae (ds:=[.str "heir",.int day,.str n1,.str n2,.str n3]) (by subst M;rfl) (dg _ (by simp))))))))))),.oth ("nnn" : Str) [110,110,110] (c9 (by simp) (gC (lP (by decide +kernel)) (gC (bF _) (gC g1 (gC g2 (gC g3 gN)))))) (by decide +kernel) d0 d1 (by decide +kernel) (by decide +kernel) ?_⟩;show(aP _ _ day && (aP _ _ day && (aP _ _ day && true)))=true;rw[eP,eP,eP,k1,k2,k3];rfl
 ·rw[decide_eq_false c7]at t7;refine⟨_,ax T (ax U (ax t2 (ax t3 (ax t4 (ax t5 (ax t6 (ax t7 (ao (ae (ds:=[.str "named",.int day,.str n1,.str n2]) (by subst M;rfl) (dg _ (by simp))))))))))),.oth ("nn" : Str) [110,110] (c9 (by simp) (gC (lP (by decide +kernel)) (gC (bF _) (gC g1 (gC g2 gN))))) (by decide +kernel) d0 d1 (by decide +kernel) (by decide +kernel) ?_⟩;show(aP _ _ day && (aP _ _ day && true))=true;rw[eP,eP,k1,k2];rfl
end
def tH {P:Int->Prop}(a b c x:Int)(ha:P a)(hb:P b)(hc:P c):∃v,da (.lst [.int a,.int b,.int c]) (.int (x % 3))=some (.int v,false)/\P v:=by
 have G:=bq (x:=x) (m:=3) (by decide);have:x % 3=0∨x % 3=1∨x % 3=2:=by omega
 rcases this with h|h|h<;>rw[h]
 ·exact⟨_,rfl,ha⟩
 ·exact⟨_,rfl,hb⟩
 ·exact⟨_,rfl,hc⟩
def ii {i lo hi:Int}(h0:lo<=i)(h1:i<=hi):aw (.int i) lo hi=true:=by rw[bE,decide_eq_true h0,decide_eq_true h1];rfl
def tI {xs:LI}(hl:xs.length=34)(hx:∀x∈xs,0<=x):∃d,jT [.lst (xs.map .int)]=some (d,false)/\GDd d:=by
 obtain⟨G,M⟩:=Classical.axiomOfChoice jX;have ix:∀(n:Nat){r:DL.Env},n<34->be 0 (n:Int) (some (.lst (xs.map .int),false)::r)=some (.int (xs.getD n 0),false):=λn r hn=>qd rfl (by omega);have T:∀(n:Nat){r:DL.Env}{m:Int},n<34->0<m->f2 bc (be 0 (n:Int)) (fI m) (some (.lst (xs.map .int),false)::r)=some (.int (xs.getD n 0 % m),false):=λn r m hn hm=>a7 (x:=.int (xs.getD n 0)) (y:=.int m) (b1:=false) (b2:=false) (ix n hn) rfl (eB _ hm);have dm:∀(n:Nat){r:DL.Env}{k m:Int},n<34->0<k->k<1073741824->0<m->f2 bc (f2 cT (be 0 (n:Int)) (fI k)) (fI m) (some (.lst (xs.map .int),false)::r)=some (.int (xs.getD n 0 / k % m),false):=λn r k m hn hk CV hm=>a7 (x:=.int (xs.getD n 0 / k)) (y:=.int m) (b1:=false) (b2:=false) (a7 (x:=.int (xs.getD n 0)) (y:=.int k) (b1:=false) (b2:=false) (ix n hn) rfl (nu _ hk CV)) rfl (eB _ hm);have FD:=bq (x:=xs.getD 1 0) (m:=30) (by decide);have FF:=bq (x:=xs.getD 1 0) (m:=10000) (by decide);obtain⟨day,ed,d0,d1⟩:∃v:Int,da (.lst [.int (xs.getD 1 0 % 30),.int (xs.getD 1 0 % 10000),.int 0,.int 9999]) (.int (xs.getD 1 0 / 10000 % 4))=some (.int v,false)/\0<=v/\v<=9999:=by
  have m4:=bq (x:=xs.getD 1 0 / 10000) (m:=4) (by decide);have:xs.getD 1 0 / 10000 % 4=0∨xs.getD 1 0 / 10000 % 4=1∨xs.getD 1 0 / 10000 % 4=2∨xs.getD 1 0 / 10000 % 4=3:=by omega
  rcases this with h|h|h|h<;>rw[h]
  ·exact⟨_,rfl,by omega,by omega⟩
  ·exact⟨_,rfl,by omega,by omega⟩
  ·exact⟨_,rfl,by decide,by decide⟩
  ·exact⟨_,rfl,by decide,by decide⟩
 have Fu:=bq (x:=xs.getD 5 0) (m:=255) (by decide);obtain⟨qe,em,fm⟩:=tH (P:=λv=>aw (.int v) 1 255=true) (1+xs.getD 5 0 % 255) 255 1 (xs.getD 5 0 / 256) (ii (by omega) (by omega)) (by decide) (by decide);have m9:=bq (x:=xs.getD 6 0) (m:=10) (by decide);obtain⟨sm,Fv,fs⟩:=tH (P:=λv=>aw (.int v) 0 9=true) (xs.getD 6 0 % 10) 9 0 (xs.getD 6 0 / 16) (ii (by omega) (by omega)) (by decide) (by decide);have FH:=bq (x:=xs.getD 6 0) (m:=60) (by decide);obtain⟨qU,en,fo⟩:=tH (P:=λv=>aw (.int v) 0 59=true) (xs.getD 6 0 % 60) 59 0 (xs.getD 6 0 / 64) (ii (by omega) (by omega)) (by decide) (by decide);obtain⟨part,ep,fp,gp⟩:=nv (xs.getD 7 0) (xs.getD 8 0);obtain⟨ys,ey,yl,_⟩:=lO xs 2 5 (by omega) (by omega);obtain⟨U,y2,O,rfl⟩:∃a b c,ys=[a,b,c]:=by
  match ys,yl with
  |[a,b,c],_=>exact⟨a,b,c,rfl⟩
 have h1:=(M U).2;have h2:=(M y2).2;have h3:=(M O).2;have m2:=bq (x:=xs.getD 9 0) (m:=2) (by decide);obtain⟨eQ,ew,fw,gw⟩:∃v:D,da (.lst [.non,.str (G O)]) (.int (xs.getD 9 0 % 2))=some (v,false)/\lh v=true/\Gd 2 v:=by
  have:xs.getD 9 0 % 2=0∨xs.getD 9 0 % 2=1:=by omega
  rcases this with h|h<;>rw[h]
  ·exact⟨_,rfl,rfl,tF⟩
  ·refine⟨_,rfl,?_,iM h3⟩;show(false || iL (G O))=true;rw[h3];rfl
 have DY:=bq (x:=xs.getD 0 0) (m:=12) (by decide);obtain⟨d,e,g⟩:=qP hl hx d0 d1 h1 h2 h3 fm fs fo fp gp fw gw (xs.getD 0 0 % 12) DY.1 DY.2;refine⟨d,ar rfl (bu (d:=.int day) (b:=false) (a7 (x:=.lst [.int (xs.getD 1 0 % 30),.int (xs.getD 1 0 % 10000),.int 0,.int 9999]) (y:=.int (xs.getD 1 0 / 10000 % 4)) (b1:=true) (b2:=false) (ae (ds:=[.int (xs.getD 1 0 % 30),.int (xs.getD 1 0 % 10000),.int 0,.int 9999]) (am (T 1 (by decide) (by decide)) (am (T 1 (by decide) (by decide)) rfl)) (cK _ (by simp))) (dm 1 (by decide) (by decide) (by decide) (by decide)) ed) rfl (dj (ρ':=[some (.lst (xs.map .int),false),some (.int day,false),some (.str (G U),false),some (.str (G y2),false),some (.str (G O),false),none,none,none,none,none,none]) ?_ (bu (d:=.int qe) (b:=false) (a7 (x:=.lst [.int (1+xs.getD 5 0 % 255),.int 255,.int 1]) (y:=.int (xs.getD 5 0 / 256 % 3)) (b1:=true) (b2:=false) (ae (ds:=[.int (1+xs.getD 5 0 % 255),.int 255,.int 1]) (am (b:=false) (a7 (x:=.int 1) (y:=.int (xs.getD 5 0 % 255)) (b1:=false) (b2:=false) rfl (T 5 (by decide) (by decide)) rfl) rfl) (cK _ (by simp))) (dm 5 (by decide) (by decide) (by decide) (by decide)) em) rfl (bu (d:=.int sm) (b:=false) (a7 (x:=.lst [.int (xs.getD 6 0 % 10),.int 9,.int 0]) (y:=.int (xs.getD 6 0 / 16 % 3)) (b1:=true) (b2:=false) (ae (ds:=[.int (xs.getD 6 0 % 10),.int 9,.int 0]) (am (T 6 (by decide) (by decide)) rfl) (cK _ (by simp))) (dm 6 (by decide) (by decide) (by decide) (by decide)) Fv) rfl (bu (d:=.int qU) (b:=false) (a7 (x:=.lst [.int (xs.getD 6 0 % 60),.int 59,.int 0]) (y:=.int (xs.getD 6 0 / 64 % 3)) (b1:=true) (b2:=false) (ae (ds:=[.int (xs.getD 6 0 % 60),.int 59,.int 0]) (am (T 6 (by decide) (by decide)) rfl) (cK _ (by simp))) (dm 6 (by decide) (by decide) (by decide) (by decide)) en) rfl (bu (d:=part) (b:=false) (ae (ds:=[.int (xs.getD 7 0),.int (xs.getD 8 0)]) (am (ix 7 (by decide)) (am (ix 8 (by decide)) rfl)) ep) gp.fl (bu (d:=eQ) (b:=false) (a7 (x:=.lst [.non,.str (G O)]) (y:=.int (xs.getD 9 0 % 2)) (b1:=true) (b2:=false) (ae (ds:=[.non,.str (G O)]) rfl (cK _ (by simp))) (T 9 (by decide) (by decide)) ew) gw.fl (bu (d:=.int (xs.getD 0 0 % 12)) (b:=false) (T 0 (by decide) (by decide)) rfl e)))))))),g⟩;have ec:bC (dO (gF (ak 0) (bj (fI 2)) (bj (fI 5)))) 1 [] (dX 0) cO (fA db (fV 0 ag)) [some (.lst (xs.map .int),false),some (.int day,false),none,none,none,none,none,none,none,none,none]=some (.lst ([U,y2,O].map λy=>.str (G y)),true):=by
  refine iT (tg:=dX 0) [U,y2,O] .int (λy=>.str (G y)) ?_ (by simp) λy _=>⟨_,rfl,false,ae (ds:=[.int y]) rfl (M y).1⟩;show(some (D.lst (c8 (xs.map .int) (some 2) (some 5)),true)).bind _=_;rw[show c8 (xs.map D.int) (some 2) (some 5)=[U,y2,O].map .int from ey];rfl
 show mH _ _ [some (.lst (xs.map .int),false),some (.int day,false),none,none,none,none,none,none,none,none,none]=_;unfold mH;rw[ec];rfl
noncomputable def zf:Nat->D->Bool
 |_,.non=>true
 |_,.bl _=>true
 |_,.int _=>true
 |_,.str z=>decide (z.length<=1000)
 |n+1,.tup ds=>decide (ds.length<=1000) && ds.all (zf n)
 |n+1,.lst ds=>decide (ds.length<=1000) && ds.all (zf n)
 |_,_=>false
theorem oK:∀(n:Nat)(d:D),zf n d=true->Ok d
 |_,.non,_=>.non
 |_,.bl b,_=>.bl b
 |_,.int i,_=>.int i
 |0,.str z,h=>.str z (of_decide_eq_true h)
 |n+1,.str z,h=>.str z (of_decide_eq_true h)
 |n+1,.tup ds,h=>by
  have h:(decide (ds.length<=1000) && ds.all (zf n))=true:=h;rw[vD]at h;exact .tup ds (of_decide_eq_true h.1) λd hd=>oK n d (uS h.2 d hd)
 |n+1,.lst ds,h=>by
  have h:(decide (ds.length<=1000) && ds.all (zf n))=true:=h;rw[vD]at h;exact .lst ds (of_decide_eq_true h.1) λd hd=>oK n d (uS h.2 d hd)
 |0,.tup _,h=>by cases h
 |0,.lst _,h=>by cases h
 |0,.ty _,h=>by cases h
 |0,.dk _ _,h=>by cases h
 |0,.dt _ _,h=>by cases h
 |n+1,.ty _,h=>by cases h
 |n+1,.dk _ _,h=>by cases h
 |n+1,.dt _ _,h=>by cases h
noncomputable def W1:LD:=[.bl true,.bl false,.non,.int (-1),.int 256,.int 10,.int 60,.int 10000,.int 8,.int 0,.str "",.str "A",.str "abcdefghi",.str "a b",.str "open",.lst [],.tup [],.tup [.int 3,.int 3]]
noncomputable def W2:LD:=[.tup [.str "a"],.lst [.str "a"],.tup [.int 0,.int 10000],.tup [.int 5,.int 4],.tup [.int 7,.str "a"],.tup [.int 8,.str "a"],.tup [.tup [.int 0,.str "a"],.tup [.int 0,.str "b"]],.tup [.tup [.int 1,.str "a"],.tup [.int 0,.str "b"]]]
noncomputable def W3:LD:=[.tup [.tup [.int 2,.str "a"]],.tup (List.replicate 9 (.str "a")),.tup [.int 0,.str "A"],.int (10 ^ 30),.tup [.non,.int 3],.str "death",.tup [.int 0,.int 1,.int 2],.tup [.bl true,.int 4],.int 1]
def AU:(W1++W2++W3).all (zf 3)=true:=by decide +kernel
def qQ (x:Int):∃d,iF [.int x]=some (d,false)/\Ok d:=by
 have G:(W1++W2++W3).length=35:=rfl;have m:=bq (x:=x) (m:=35) (by decide);obtain⟨d,hd⟩:∃d,(W1++W2++W3)[(x % 35).toNat]? = some d:=⟨_,getElem?_eq_getElem (by rw[G];omega)⟩;refine⟨d,ar rfl (yi (d:=.lst W1) (b:=true) ?_ rfl (.inr rfl) (yi (d:=.lst (W1++W2)) (b:=true) ?_ rfl (.inr rfl) (yi (d:=.lst (W1++W2++W3)) (b:=true) ?_ rfl (.inr rfl) (ao (a7 (x:=.lst (W1++W2++W3)) (y:=.int (x % 35)) (b1:=false) (b2:=false) rfl (a7 (x:=.int x) (y:=.int 35) (b1:=false) (b2:=false) rfl rfl (eB _ (by decide))) (C0 m.1 hd)))))),oK 3 d (uS AU d (mem_of_getElem? hd))⟩
 ·exact ae (ds:=W1) rfl (cK _ (by decide))
 ·exact a7 (x:=.lst W1) (y:=.lst W2) (b1:=false) (b2:=true) rfl (ae (ds:=W2) rfl (cK _ (by decide))) (show(if W1.length+W2.length<=sizeLine then some (D.lst (W1++W2),true)else none)=_ from if_pos (cy (by decide)))
 ·exact a7 (x:=.lst (W1++W2)) (y:=.lst W3) (b1:=false) (b2:=true) rfl (ae (ds:=W3) rfl (cK _ (by decide))) (show(if(W1++W2).length+W3.length<=sizeLine then some (D.lst (W1++W2++W3),true)else none)=_ from if_pos (cy (by decide)))
def Du {n j:Nat}(h:j<n):oZ n (j:Int)=some j:=by
 unfold oZ;rw[if_pos (by omega)];rw[if_pos (by omega),Int.toNat_natCast]
def vw {ds:LD}{G M O:OB}{j:Nat}{T y d:D}{b:Bool}{F:LD->OB}{U:FE}(hj:ds[j]? = some T)(ey:U (dI [G,M,some (.lst ds,true),some (.int (j:Int),false),O])=some (y,b))(ed:F [T,y]=some (d,false)):mO 2 (ak 3) F (ak 3) U [G,M,some (.lst ds,true),some (.int (j:Int),false),O]=some (.nx [G,M,some (.lst (ds.set j d),true),some (.int (j:Int),false),O]):=by
 have e3:ak 3 (dI [G,M,some (.lst ds,true),some (.int (j:Int),false),O])=some (.int (j:Int),false):=rfl;unfold mO;show((ak 3 (dI [G,M,some (.lst ds,true),some (.int (j:Int),false),O])).bind _)=_;rw[e3,vJ];show((iQ ds (j:Int)).bind _)=_;rw[yw hj,vJ,ey,vJ,ed,vJ,vJ];show((oZ ds.length (j:Int)).bind _)=_;rw[Du (vV hj).1];rfl
def vx {ds:LD}{G M O:OB}{j:Nat}{d:D}{b:Bool}{T:FE}(hj:j<ds.length)(ed:T (dI [G,M,some (.lst ds,true),some (.int (j:Int),false),O])=some (d,b)):mN 2 (ak 3) T [G,M,some (.lst ds,true),some (.int (j:Int),false),O]=some (.nx [G,M,some (.lst (ds.set j d),true),some (.int (j:Int),false),O]):=by
 have U:ak 3 (dI [G,M,some (.lst ds,true),some (.int (j:Int),false),O])=some (.int (j:Int),false):=rfl;unfold mN;show((T (dI [G,M,some (.lst ds,true),some (.int (j:Int),false),O])).bind _)=_;rw[ed,vJ,U,vJ];show((oZ ds.length (j:Int)).bind _)=_;rw[Du hj];rfl
def vy {ds:LD}{j:Nat}{d e:D}(h:e∈ds.set j d):e∈ds∨e=d:=List.mem_or_eq_of_mem_set h
theorem jY:∀ {ds:LD}{d:D},cc ds=true->d∈ds->b8 d=true
 |[],_,_,h=>by cases h
 |e::ds,d,h,hd=>by
  rw[mh,vD]at h;rcases mem_cons.mp hd with rfl|hd
  ·exact h.1
  ·exact jY h.2 hd
theorem ny:∀(n:Nat)(ds:LD)(xs:LI),vt n (.tup ds)=true->Ok (.tup ds)->cc ds=true->2*n+1<=xs.length->∃d,dc n [.tup ds,.lst (xs.map .int)]=some (d,false)/\Ok d
 |0,_,_,h,_,_,_=>by cases h
 |n+1,ds,xs,h,ok,hn,hx=>by
  have h:(decide (ds.length<=100) && ds.all (vt n))=true:=h;rw[vD]at h;have hl:=of_decide_eq_true h.1;have hs:=uS h.2;have ix:∀(k:Nat){r:DL.Env}{x0:OB},k<3->be 1 (k:Int) (x0::some (.lst (xs.map .int),false)::r)=some (.int (xs.getD k 0),false):=λk r x0 hk=>qd rfl (by omega);have Br:∀ {x0 x1 x3 x4:OB},fA bp (fV 2 ag) [x0,x1,some (.lst ds,true),x3,x4]=some (.int (ds.length:Int),false):=ae (ds:=[.lst ds]) rfl rfl;have pre:∀ {g:FS}{r:Option Res},g [some (.tup ds,false),some (.lst (xs.map .int),false),some (.lst ds,true),none,none]=r->ay (ba 2 (fA bS (fV 0 ag))) g [some (.tup ds,false),some (.lst (xs.map .int),false),none,none,none]=r:=λk=>jN (ds:=ds) (ae (ds:=[.tup ds]) rfl rfl) hn k;have t0:aO (f2 cB (fA bp (fV 2 ag)) (fI 0)) [some (.tup ds,false),some (.lst (xs.map .int),false),some (.lst ds,true),none,none]=some (decide ((ds.length:Int)=0)):=a9 (b:=false) (a7 (x:=.int (ds.length:Int)) (y:=.int 0) (b1:=false) (b2:=false) Br rfl (qT _ _));by_cases hd0:(ds.length:Int)=0
  ·rw[decide_eq_true hd0]at t0;refine⟨.tup [.int (xs.getD 0 0 % 3)],ar rfl (pre (aL t0 (ao (ae (ds:=[.int (xs.getD 0 0 % 3)]) (am (b:=false) (a7 (x:=.int (xs.getD 0 0)) (y:=.int 3) (b1:=false) (b2:=false) (ix 0 (by decide)) rfl (eB _ (by decide))) rfl) (dg _ (by simp)))))),.tup _ (by simp) λd hd=>?_⟩;rw[uU hd];exact .int _
  ·rw[decide_eq_false hd0]at t0;have hm:=bq (x:=xs.getD 0 0) (m:=(ds.length:Int)) (by omega);obtain⟨j,hj⟩:∃j:Nat,xs.getD 0 0 % (ds.length:Int)=(j:Int):=⟨(xs.getD 0 0 % (ds.length:Int)).toNat,by omega⟩;have DZ:j<ds.length:=by omega
   obtain⟨G,CY⟩:∃G,ds[j]? = some G:=⟨_,getElem?_eq_getElem DZ⟩;have CZ:=mem_of_getElem? CY;have Db:=ok.sub.2 G CZ;have M:∀ {g:FS}{r:Option Res},g [some (.tup ds,false),some (.lst (xs.map .int),false),some (.lst ds,true),some (.int (j:Int),false),none]=r->ay (ba 3 (f2 bc (be 1 0) (fA bp (fV 2 ag)))) g [some (.tup ds,false),some (.lst (xs.map .int),false),some (.lst ds,true),none,none]=r:=λk=>bu (d:=.int (j:Int)) (b:=false) (a7 (x:=.int (xs.getD 0 0)) (y:=.int (ds.length:Int)) (b1:=false) (b2:=false) (ix 0 (by decide)) Br (by rw[eB _ (by omega),hj])) rfl k;have Ea:∀ {x0 x1 x4:OB},f2 da (ak 2) (ak 3) [x0,x1,some (.lst ds,true),some (.int (j:Int),false),x4]=some (G,false):=a7 (x:=.lst ds) (y:=.int (j:Int)) (b1:=false) (b2:=false) rfl rfl (by show(iQ ds (j:Int)).map _=_;rw[yw CY];rfl);have t1:gR (aO (fA ap (aa (f2 da (ak 2) (ak 3)) (aa (fC (.ty "tuple")) ag)))) (aO (f2 rQ (f2 bc (be 1 1) (fI 3)) (fI 0))) [some (.tup ds,false),some (.lst (xs.map .int),false),some (.lst ds,true),some (.int (j:Int),false),none]=some (jf G && decide (0<xs.getD 1 0 % 3)):=lM (a9 (b:=false) (ae (ds:=[G,.ty "tuple"]) (am Ea rfl) (w4 Db))) λ_=>a9 (b:=false) (a7 (x:=.int (xs.getD 1 0 % 3)) (y:=.int 0) (b1:=false) (b2:=false) (a7 (x:=.int (xs.getD 1 0)) (y:=.int 3) (b1:=false) (b2:=false) (ix 1 (by decide)) rfl (eB _ (by decide))) rfl rfl);have O:∀ {d:D},Ok d->Ok (.tup (ds.set j d)):=λ{d} hd=>.tup _ (by rw[length_set];omega) λe he=>by
    rcases vy he with he|rfl
    ·exact ok.sub.2 e he
    ·exact hd
   cases hb:(jf G && decide (0<xs.getD 1 0 % 3)) with
   |true=>
    rw[hb]at t1;rw[vD]at hb;obtain⟨U,rfl⟩:∃U,G=.tup U:=by cases G<;>first|exact⟨_,rfl⟩|cases hb.1
    have C6:cc U=true:=by have:=jY hn CZ;rw[ip]at this;exact this
    obtain⟨d,ed,od⟩:=ny n U (xs.drop 2) (hs _ CZ) Db C6 (by rw[length_drop];omega);refine⟨.tup (ds.set j d),ar rfl (pre (ax t0 (M (uT (mQ t1 (dj (vw (y:=.lst ((xs.drop 2).map .int)) (b:=true) CY ?_ ed) (ao (ae (ds:=[.lst (ds.set j d)]) rfl rfl)))))))),O od⟩;show some (D.lst (c8 (xs.map .int) (some 2) none),true)=_;rw[show c8 (xs.map D.int) (some 2) none=_ from vv (xs.map D.int) 2,map_drop]
   |false=>
    rw[hb]at t1;have T:∀ {g:FS}{r:Option Res},g [some (.tup ds,false),some (.lst (xs.map .int),false),some (.lst ds,true),some (.int (j:Int),false),some (.int (xs.getD 1 0 / 3 % 8),false)]=r->ay (ba 4 (f2 bc (f2 cT (be 1 1) (fI 3)) (fI 8))) g [some (.tup ds,false),some (.lst (xs.map .int),false),some (.lst ds,true),some (.int (j:Int),false),none]=r:=λk=>bu (d:=.int (xs.getD 1 0 / 3 % 8)) (b:=false) (a7 (x:=.int (xs.getD 1 0 / 3)) (y:=.int 8) (b1:=false) (b2:=false) (a7 (x:=.int (xs.getD 1 0)) (y:=.int 3) (b1:=false) (b2:=false) (ix 1 (by decide)) rfl (nu _ (by decide) (by decide))) rfl (eB _ (by decide))) rfl k;have tt:∀k:Int,aO (f2 cB (ak 4) (fI k)) [some (.tup ds,false),some (.lst (xs.map .int),false),some (.lst ds,true),some (.int (j:Int),false),some (.int (xs.getD 1 0 / 3 % 8),false)]=some (decide (xs.getD 1 0 / 3 % 8=k)):=λk=>a9 (b:=false) (a7 (x:=.int (xs.getD 1 0 / 3 % 8)) (y:=.int k) (b1:=false) (b2:=false) rfl rfl (qT _ _));have eT:∀ {x4:OB},gF (ak 2) cP (bj (ak 3)) [some (.tup ds,false),some (.lst (xs.map .int),false),some (.lst ds,true),some (.int (j:Int),false),x4]=some (.lst (ds.take j),true):=by
     intro x4;show some (D.lst (c8 ds none (some (j:Int))),true)=_;rw[AS]
    have t2:=tt 0;by_cases c0:xs.getD 1 0 / 3 % 8=0
    ·rw[decide_eq_true c0]at t2;refine⟨.tup (ds.take j++ds.drop (j+1)),ar rfl (pre (ax t0 (M (ax t1 (T (aL t2 (ao (ae (ds:=[.lst (ds.take j++ds.drop (j+1))]) (am (b:=true) (a7 (x:=.lst (ds.take j)) (y:=.lst (ds.drop (j+1))) (b1:=true) (b2:=true) eT ?_ ?_) rfl) rfl)))))))),.tup _ (by rw[vA,length_take,length_drop];omega) λe he=>?_⟩
     ·show some (D.lst (c8 ds (some ((j:Int)+1)) none),true)=_;rw[show(j:Int)+1=((j+1:Nat):Int) by omega,vv]
     ·exact if_pos (cy (by rw[length_take,length_drop];omega))
     ·rcases mem_append.mp he with he|he
      ·exact ok.sub.2 e (mem_of_mem_take he)
      ·exact ok.sub.2 e (List.mem_of_mem_drop he)
    ·rw[decide_eq_false c0]at t2;have t3:=tt 1;by_cases c1:xs.getD 1 0 / 3 % 8=1
     ·rw[decide_eq_true c1]at t3;refine⟨.tup (ds.take j++[G]++ds.drop j),ar rfl (pre (ax t0 (M (ax t1 (T (ax t2 (aL t3 (ao (ae (ds:=[.lst (ds.take j++[G]++ds.drop j)]) (am (b:=true) (a7 (x:=.lst (ds.take j++[G])) (y:=.lst (ds.drop j)) (b1:=true) (b2:=true) (a7 (x:=.lst (ds.take j)) (y:=.lst [G]) (b1:=true) (b2:=true) eT (ae (ds:=[G]) (am Ea rfl) (cK _ (by simp))) ?_) ?_ ?_) rfl) rfl))))))))),.tup _ (by rw[vA,vA,length_take,length_drop,length_singleton];omega) λe he=>?_⟩
      ·exact if_pos (cy (by rw[length_take];simp;omega))
      ·show some (D.lst (c8 ds (some (j:Int)) none),true)=_;rw[vv]
      ·exact if_pos (cy (by rw[vA,length_take,length_drop,length_singleton];omega))
      ·rcases mem_append.mp he with he|he
       ·rcases mem_append.mp he with he|he
        ·exact ok.sub.2 e (mem_of_mem_take he)
        ·rw[uU he];exact Db
       ·exact ok.sub.2 e (List.mem_of_mem_drop he)
     ·rw[decide_eq_false c1]at t3;obtain⟨d,ed,od⟩:=qQ (xs.getD 2 0);exact⟨.tup (ds.set j d),ar rfl (pre (ax t0 (M (ax t1 (T (ax t2 (ax t3 (dj (vx DZ (ae (ds:=[.int (xs.getD 2 0)]) (am (ix 2 (by decide)) rfl) ed)) (ao (ae (ds:=[.lst (ds.set j d)]) rfl rfl)))))))))),O od⟩
theorem nA:∀(n:Nat)(d:D),vt n d=true->vt (n+1) d=true
 |0,.tup _,h=>by cases h
 |n+1,.tup ds,h=>by
  have h:(decide (ds.length<=100) && ds.all (vt n))=true:=h;rw[vD]at h;show(decide (ds.length<=100) && ds.all (vt (n+1)))=true;rw[h.1,all_eq_true.mpr λd hd=>nA n d (uS h.2 d hd)];rfl
 |_,.non,_=>rfl
 |_,.bl _,_=>rfl
 |_,.int _,_=>rfl
 |_,.str _,_=>rfl
 |0,.ty _,h=>by cases h
 |0,.lst _,h=>by cases h
 |0,.dk _ _,h=>by cases h
 |0,.dt _ _,h=>by cases h
 |_+1,.ty _,h=>by cases h
 |_+1,.lst _,h=>by cases h
 |_+1,.dk _ _,h=>by cases h
 |_+1,.dt _ _,h=>by cases h
def Gd.mono (h:Gd n d):Gd (n+1) d:=⟨h.ok,h.fl,nA n d h.sm⟩
def GDd.gd (h:GDd d):Gd 3 d:=by cases h<;>assumption
def vz {G:D}(g:GDd G){h:Int}(h0:0<=h)(h1:h<=9999)(hd:∀w day r,G=.tup (.str w::.int day::r)->w≠("root" : Str)->day<=h):ca [.tup [.int h,G]]=some (.bl true,false)/\cI [.tup [.int h,G]]=some (.bl true,false):=by
 have ok:Ok (.tup [.int h,G]):=(c9 (n:=3) (by simp) (gC (bF _) (gC g.gd gN))).ok;have hh:=ii h0 h1;cases g with
 |@root a r gg f=>
  obtain⟨z,_,M,O⟩:=jW ok hh;have hb:gt h ("root" : Str) z a r=true:=(bQ (decide_eq_true rfl)).trans (by rw[qa];exact f);rw[hb]at M O;exact⟨M,O⟩
 |@oth w z cs day r gg hw d0 d1 hz hc f=>
  obtain⟨T,U,M,O⟩:=jW ok hh;have DV:T=z:=by
   have:=gn hz;rw[U]at this;injection this
  subst DV;have hb:gt h w T (.int day) r=true:=(aq hw).trans (by
   show((decide (0<=day) && decide (day<=h)) && fu day T.cps.toList r)=true;rw[hc,f,decide_eq_true d0,decide_eq_true (hd w day r rfl (of_decide_eq_false hw))];rfl)
  rw[hb]at M O;exact⟨M,O⟩
noncomputable def Ew (ns cs:LI)(i:Nat)(xs:LI)(G:D)(b1 b3:Bool)(x5 x6 x7:OB):DL.Env:=[some (.lst (ns.map .int),false),some (.lst (cs.map .int),b1),some (.int (i:Int),false),some (.lst (xs.map .int),b3),some (G,false),x5,x6,x7]
section
variable (ns cs:LI) (i:Nat) (xs:LI) (iO:D)
theorem AW {f:FE}{b1 b3:Bool}{x6 x7:OB}{row d:D}(e:f (Ew ns cs i xs iO b1 b3 (some (row,false)) x6 x7)=some (d,false)):∃G M O,ba 6 f (Ew ns cs i xs iO b1 b3 (some (row,false)) x6 x7)=some (.nx (Ew ns cs i xs iO G M (some (row,false)) (some (d,false)) O)):=by
 by_cases h:b8 d=true
 ·exact⟨b1,b3,x7,eY e h⟩
 ·refine⟨false,false,x7.map λy=>(y.1,false),?_⟩;unfold ba;rw[e];show some (Res.nx (setE _ 6 d false))=_;rw[pK (by simpa using h) (.inl rfl)];rfl
theorem AX {b1 b3:Bool}{x5 x6 x7:OB}(hl:xs.length=34)(n:Nat)(hn:n<34):be 3 (n:Int) (Ew ns cs i xs iO b1 b3 x5 x6 x7)=some (.int (xs.getD n 0),false):=qd rfl (by omega)
end
def Er:FS :=
  (ay (bU (aO (f2 jl (be 4 0) (fS "root"))) (ba 5 (fA aE (aa (fA rX (aa (be 5 0) (aa (be 4 1) ag))) (fV 4 ag)))) aA)
  (ay (bU (b7 (aO (f2 lG (fA ca (fV 5 ag)) (fC (.bl true)))) (aN (aO (fA cI (fV 5 ag))))) (aD (fC (.bl false))) aA)
  (ay (ba 6 (ak 5))
  (ay (bU (aO (f2 rQ (f2 bc (be 3 20) (fI 4)) (fI 0))) (ba 6 (fA (dc 6) (fV 5 (aa (gF (ak 3) (bj (fI 21)) cP) ag)))) aA)
  (ay (bU (aO (f2 cB (f2 bc (be 3 20) (fI 16)) (fI 4))) (ba 6 (f2 da (fA b9 (aa (fA bS (fV 5 ag)) (fV 4 (aa (fA aE (aa (be 5 0) ag)) (aa (fA aE ag) (aa (fA aE (aa (be 5 0) (aa (fA bS (fV 4 ag)) ag))) (aa (fA aE (aa (be 4 0) (fV 4 ag))) ag))))))) (f2 bc (be 3 21) (fI 6)))) aA)
  (ay (ba 7 (fA ca (fV 6 ag)))
  (bU (b7 (aN (aO (fA ap (fV 7 (aa (fC (.ty "bool")) ag))))) (aO (f2 jl (ak 7) (fA cI (fV 6 ag))))) (aD (fC (.bl false))) aA)))))))
def Es (b:Bool):jl (.bl b) (.bl b)=some (.bl false,false):=by cases b<;>simp
def AY (ns cs:LI)(i:Nat){xs:LI}(hl:xs.length=34){G:D}(g:GDd G){h:Int}(h0:0<=h)(h1:h<=9999)(b1 b3:Bool)(x6 x7:OB):∃O T y5 y6 M,Er (Ew ns cs i xs G b1 b3 (some (.tup [.int h,G],false)) x6 x7)=some (.nx (Ew ns cs i xs G O T y5 y6 M)):=by
 obtain⟨w,a,r,rfl⟩:∃w a r,G=.tup (.str w::a::r):=by cases g<;>exact⟨_,_,_,rfl⟩
 have gd:=g.gd;have Eb:∀ {b1 b3:Bool}{x5 x6 x7:OB},be 4 0 (Ew ns cs i xs (.tup (.str w::a::r)) b1 b3 x5 x6 x7)=some (.str w,false):=gf (n:=0) rfl rfl;have t0:aO (f2 jl (be 4 0) (fS "root")) (Ew ns cs i xs (.tup (.str w::a::r)) b1 b3 (some (.tup [.int h,.tup (.str w::a::r)],false)) x6 x7)=some (!decide (w=("root" : Str))):=a9 (b:=false) (a7 (x:=.str w) (y:=.str "root") (b1:=false) (b2:=false) Eb rfl (by simp))
 -- the row
 obtain⟨h',D7,CG,hd,e5⟩:∃h':Int,0<=h'/\h'<=9999/\(∀w' day r',(.tup (.str w::a::r):D)=.tup (.str w'::.int day::r')->w'≠("root" : Str)->day<=h')/\bU (aO (f2 jl (be 4 0) (fS "root"))) (ba 5 (fA aE (aa (fA rX (aa (be 5 0) (aa (be 4 1) ag))) (fV 4 ag)))) aA (Ew ns cs i xs (.tup (.str w::a::r)) b1 b3 (some (.tup [.int h,.tup (.str w::a::r)],false)) x6 x7)=some (.nx (Ew ns cs i xs (.tup (.str w::a::r)) b1 b3 (some (.tup [.int h',.tup (.str w::a::r)],false)) x6 x7)):=by
  by_cases hw:w=("root" : Str)
  ·rw[decide_eq_true hw]at t0;refine⟨h,h0,h1,λw' day r' e hw'=>?_,lL t0 rfl⟩;injection e with e;injection e with e _;injection e with e;exact absurd (e ▸ hw) hw'
  ·rw[decide_eq_false hw]at t0;obtain⟨day,rfl,d0,d1⟩:∃day,a=.int day/\0<=day/\day<=9999:=by
    cases g with
    |root=>exact absurd rfl hw
    |oth z cs gg hw d0 d1 hz hc f=>exact⟨_,rfl,d0,d1⟩
   refine⟨if day > h then day else h,by split<;>omega,by split<;>omega,λw' day' r' e _=>?_,mQ t0 (eY (d:=.tup [.int (if day > h then day else h),.tup (.str w::.int day::r)]) (b:=false) (ae (ds:=[.int (if day > h then day else h),.tup (.str w::.int day::r)]) (am (b:=false) (ae (ds:=[.int h,.int day]) (am (b:=false) (gf (n:=0) rfl rfl) (am (b:=false) (gf (n:=1) rfl rfl) rfl)) rfl) (am (b:=false) rfl rfl)) (dg _ (by simp))) (c9 (n:=3) (by simp) (gC (bF _) (gC gd gN))).fl)⟩
   injection e with e;injection e with _ e;injection e with e _;injection e with e;subst e;split<;>omega
 obtain⟨k1,k2⟩:=vz g D7 CG hd;have gr:Gd 6 (.tup [.int h',.tup (.str w::a::r)]):=c9 (n:=5) (by simp) (gC (bF _) (gC gd.mono.mono gN));generalize hrow:(.tup [.int h',.tup (.str w::a::r)]:D)=row at k1 k2 e5 gr;have t1:b7 (aO (f2 lG (fA ca (fV 5 ag)) (fC (.bl true)))) (aN (aO (fA cI (fV 5 ag)))) (Ew ns cs i xs (.tup (.str w::a::r)) b1 b3 (some (row,false)) x6 x7)=some false:=(aS (p:=false) (q:=false) (a9 (b:=false) (a7 (x:=.bl true) (y:=.bl true) (b1:=false) (b2:=false) (ae (ds:=[row]) rfl k1) rfl rfl)) λ_=>bM (p:=true) (a9 (b:=false) (ae (ds:=[row]) rfl k2))).trans rfl;have e6:ba 6 (ak 5) (Ew ns cs i xs (.tup (.str w::a::r)) b1 b3 (some (row,false)) x6 x7)=some (.nx (Ew ns cs i xs (.tup (.str w::a::r)) b1 b3 (some (row,false)) (some (row,false)) x7)):=eY (d:=row) (b:=false) rfl gr.fl;have t2:aO (f2 rQ (f2 bc (be 3 20) (fI 4)) (fI 0)) (Ew ns cs i xs (.tup (.str w::a::r)) b1 b3 (some (row,false)) (some (row,false)) x7)=some (decide (0<xs.getD 20 0 % 4)):=a9 (b:=false) (a7 (x:=.int (xs.getD 20 0 % 4)) (y:=.int 0) (b1:=false) (b2:=false) (a7 (x:=.int (xs.getD 20 0)) (y:=.int 4) (b1:=false) (b2:=false) (AX ns cs i xs _ hl 20 (by decide)) rfl (eB _ (by decide))) rfl rfl);obtain⟨O,T,M,d,od,e7⟩:∃O T M d,Ok d/\bU (aO (f2 rQ (f2 bc (be 3 20) (fI 4)) (fI 0))) (ba 6 (fA (dc 6) (fV 5 (aa (gF (ak 3) (bj (fI 21)) cP) ag)))) aA (Ew ns cs i xs (.tup (.str w::a::r)) b1 b3 (some (row,false)) (some (row,false)) x7)=some (.nx (Ew ns cs i xs (.tup (.str w::a::r)) O T (some (row,false)) (some (d,false)) M)):=by
  cases hb:decide (0<xs.getD 20 0 % 4) with
  |false=>
   rw[hb]at t2;exact⟨b1,b3,x7,row,gr.ok,lL t2 rfl⟩
  |true=>
   rw[hb]at t2;obtain⟨d,ed,od⟩:∃d,dc 6 [row,.lst ((xs.drop 21).map .int)]=some (d,false)/\Ok d:=by
    subst hrow;exact ny 6 _ (xs.drop 21) gr.sm gr.ok (by have:=gr.fl;rw[ip]at this;exact this) (by rw[length_drop];omega)
   obtain⟨O,T,M,e⟩:=AW ns cs i xs (.tup (.str w::a::r)) (f:=fA (dc 6) (fV 5 (aa (gF (ak 3) (bj (fI 21)) cP) ag))) (b1:=b1) (b3:=b3) (x6:=some (row,false)) (x7:=x7) (row:=row) (d:=d) (ae (ds:=[row,.lst ((xs.drop 21).map .int)]) (am (b:=false) rfl (am (b:=true) (by
    show some (D.lst (c8 (xs.map .int) (some 21) none),true)=_;rw[show c8 (xs.map D.int) (some 21) none=_ from vv (xs.map D.int) 21,map_drop]) rfl)) ed)
   exact⟨O,T,M,d,od,mQ t2 e⟩
 have t3:∀ {x6 x7:OB},aO (f2 cB (f2 bc (be 3 20) (fI 16)) (fI 4)) (Ew ns cs i xs (.tup (.str w::a::r)) O T (some (row,false)) x6 x7)=some (decide (xs.getD 20 0 % 16=4)):=a9 (b:=false) (a7 (x:=.int (xs.getD 20 0 % 16)) (y:=.int 4) (b1:=false) (b2:=false) (a7 (x:=.int (xs.getD 20 0)) (y:=.int 16) (b1:=false) (b2:=false) (AX ns cs i xs _ hl 20 (by decide)) rfl (eB _ (by decide))) rfl (qT _ _));obtain⟨f1,f3,z7,d',Fw,e8⟩:∃f1 f3 z7 d',Ok d'/\bU (aO (f2 cB (f2 bc (be 3 20) (fI 16)) (fI 4))) (ba 6 (f2 da (fA b9 (aa (fA bS (fV 5 ag)) (fV 4 (aa (fA aE (aa (be 5 0) ag)) (aa (fA aE ag) (aa (fA aE (aa (be 5 0) (aa (fA bS (fV 4 ag)) ag))) (aa (fA aE (aa (be 4 0) (fV 4 ag))) ag))))))) (f2 bc (be 3 21) (fI 6)))) aA (Ew ns cs i xs (.tup (.str w::a::r)) O T (some (row,false)) (some (d,false)) M)=some (.nx (Ew ns cs i xs (.tup (.str w::a::r)) f1 f3 (some (row,false)) (some (d',false)) z7)):=by
  cases hb:decide (xs.getD 20 0 % 16=4) with
  |false=>
   have t3:=t3 (x6:=some (d,false)) (x7:=M);rw[hb]at t3;exact⟨O,T,M,d,od,lL t3 rfl⟩
  |true=>
   have t3:=t3 (x6:=some (d,false)) (x7:=M);rw[hb]at t3;subst hrow;have U:=gd.ok;have Fx:=gr.ok;have dl:=U.sub.1;have ol:Ok (.lst (.str w::a::r)):=.lst _ dl U.sub.2;let L:LD:=[.lst [.int h',.tup (.str w::a::r)],.tup (.str w::a::r),.tup [.int h'],.tup [],.tup [.int h',.lst (.str w::a::r)],.tup [.str w,.tup (.str w::a::r)]];have hL:∀d∈L,Ok d:=λd hd=>by
    simp only[L,mem_cons,not_mem_nil,or_false]at hd;rcases hd with rfl|rfl|rfl|rfl|rfl|rfl
    ·exact .lst _ (by simp) Fx.sub.2
    ·exact U
    ·exact .tup _ (by simp) λe he=>by rw[uU he];exact .int _
    ·exact .tup _ (by simp) λe he=>by cases he
    ·exact .tup _ (by simp) λe he=>by
      simp only[mem_cons,not_mem_nil,or_false]at he;rcases he with rfl|rfl
      ·exact .int _
      ·exact ol
    ·exact .tup _ (by simp) λe he=>by
      simp only[mem_cons,not_mem_nil,or_false]at he;rcases he with rfl|rfl
      ·exact U.sub.2 _ (by simp)
      ·exact U
   have m6:=bq (x:=xs.getD 21 0) (m:=6) (by decide);obtain⟨d',Ec⟩:∃d',L[(xs.getD 21 0 % 6).toNat]? = some d':=⟨_,getElem?_eq_getElem (show(xs.getD 21 0 % 6).toNat<6 by omega)⟩;have Ed:be 5 0 (Ew ns cs i xs (.tup (.str w::a::r)) O T (some (.tup [.int h',.tup (.str w::a::r)],false)) (some (d,false)) M)=some (.int h',false):=gf (n:=0) rfl rfl;have eL:(aa (fA bS (fV 5 ag)) (fV 4 (aa (fA aE (aa (be 5 0) ag)) (aa (fA aE ag) (aa (fA aE (aa (be 5 0) (aa (fA bS (fV 4 ag)) ag))) (aa (fA aE (aa (be 4 0) (fV 4 ag))) ag)))))) (Ew ns cs i xs (.tup (.str w::a::r)) O T (some (.tup [.int h',.tup (.str w::a::r)],false)) (some (d,false)) M)=some L:=am (b:=true) (ae (ds:=[.tup [.int h',.tup (.str w::a::r)]]) rfl rfl) (am (b:=false) rfl (am (b:=false) (ae (ds:=[.int h']) (am Ed rfl) (dg _ (by simp))) (am (b:=false) (ae (ds:=[]) rfl (dg _ (by simp))) (am (b:=false) (ae (ds:=[.int h',.lst (.str w::a::r)]) (am Ed (am (b:=true) (ae (ds:=[.tup (.str w::a::r)]) rfl rfl) rfl)) (dg _ (by simp))) (am (b:=false) (ae (ds:=[.str w,.tup (.str w::a::r)]) (am Eb (am (b:=false) rfl rfl)) (dg _ (by simp))) rfl)))));obtain⟨f1,f3,z7,e⟩:=AW ns cs i xs (.tup (.str w::a::r)) (f:=f2 da (fA b9 (aa (fA bS (fV 5 ag)) (fV 4 (aa (fA aE (aa (be 5 0) ag)) (aa (fA aE ag) (aa (fA aE (aa (be 5 0) (aa (fA bS (fV 4 ag)) ag))) (aa (fA aE (aa (be 4 0) (fV 4 ag))) ag))))))) (f2 bc (be 3 21) (fI 6))) (b1:=O) (b3:=T) (x6:=some (d,false)) (x7:=M) (row:=.tup [.int h',.tup (.str w::a::r)]) (d:=d') (a7 (x:=.lst L) (y:=.int (xs.getD 21 0 % 6)) (b1:=true) (b2:=false) (ae (ds:=L) eL (cK _ (by simp[L]))) (a7 (x:=.int (xs.getD 21 0)) (y:=.int 6) (b1:=false) (b2:=false) (AX ns cs i xs _ hl 21 (by decide)) rfl (eB _ (by decide))) (C0 m6.1 Ec));exact⟨f1,f3,z7,d',hL d' (mem_of_getElem? Ec),mQ t3 e⟩
 obtain⟨x,k3,k4⟩:=both Fw;exact⟨f1,f3,_,_,_,dj e5 (ax t1 (dj e6 (dj e7 (dj e8 (bu (d:=.bl x) (b:=false) (ae (ds:=[d']) rfl k3) rfl (lL ((aS (p:=false) (q:=false) (bM (p:=true) (a9 (b:=false) (ae (ds:=[.bl x,.ty "bool"]) rfl rfl))) λ_=>a9 (b:=false) (a7 (x:=.bl x) (y:=.bl x) (b1:=false) (b2:=false) rfl (ae (ds:=[d']) rfl k4) (Es x))).trans rfl) rfl))))))⟩
def law_true (ns:LI)(_:ns.length<=63):∃b,F_law [.lst (ns.map .int)]=some (.bl true,b):=by
 obtain⟨cs,hc,FI⟩:=sK 12 ns;obtain⟨ρ',e,_⟩:=jK (tg:=dX 2) (g:=sO) cs.length (λ_ ρ=>∃b U O T x5 x6 x7,ρ=[some (.lst (ns.map .int),false),some (.lst (cs.map .int),b),U,O,T,x5,x6,x7]) [some (.lst (ns.map .int),false),some (.lst (cs.map .int),true),none,none,none,none,none,none] ⟨_,_,_,_,_,_,_,rfl⟩ (by
  rintro i ρ hi ⟨b,U,O,T,x5,x6,x7,rfl⟩;obtain⟨xs,ex,M,hx⟩:=kP (cs.getD i 0) i 34 (by omega) (by decide);obtain⟨G,ed,g⟩:=tI M λx h=>(hx x h).1;have m1:=bq (x:=xs.getD 18 0) (m:=10000) (by decide);have m2:=bq (x:=xs.getD 19 0) (m:=2) (by decide);obtain⟨h,eh,h0,h1⟩:∃h:Int,da (.lst [.int 9999,.int (xs.getD 18 0 % 10000)]) (.int (xs.getD 19 0 % 2))=some (.int h,false)/\0<=h/\h<=9999:=by
   have:xs.getD 19 0 % 2=0∨xs.getD 19 0 % 2=1:=by omega
   rcases this with h|h<;>rw[h]
   ·exact⟨_,rfl,by decide,by decide⟩
   ·exact⟨_,rfl,by omega,by omega⟩
  obtain⟨c1,c3,y5,y6,y7,e2⟩:=AY ns cs i M g h0 h1 b true x6 x7;refine⟨[some (.lst (ns.map .int),false),some (.lst (cs.map .int),b),some (.int (i:Int),false),O,T,x5,x6,x7],Ew ns cs i xs G c1 c3 y5 y6 y7,rfl,.inl (jN (ds:=xs.map .int) (ae (ds:=[.int (cs.getD i 0),.int (i:Int),.int ((34:Nat):Int)]) (am (b:=false) (a7 (x:=.lst (cs.map .int)) (y:=.int (i:Int)) (b1:=false) (b2:=false) rfl rfl ?_) rfl) ex) (fW _) (bu (d:=G) (b:=false) (ae (ds:=[.lst (xs.map .int)]) rfl ed) g.gd.fl (bu (d:=.tup [.int h,G]) (b:=false) (ae (ds:=[.int h,G]) (am (b:=false) (a7 (x:=.lst [.int 9999,.int (xs.getD 18 0 % 10000)]) (y:=.int (xs.getD 19 0 % 2)) (b1:=true) (b2:=false) (ae (ds:=[.int 9999,.int (xs.getD 18 0 % 10000)]) (am (b:=false) rfl (am (b:=false) (a7 (x:=.int (xs.getD 18 0)) (y:=.int 10000) (b1:=false) (b2:=false) (AX ns cs i xs G (b1:=b) (b3:=true) (x5:=x5) (x6:=x6) (x7:=x7) M 18 (by decide)) rfl (eB _ (by decide))) rfl)) (cK _ (by simp))) (a7 (x:=.int (xs.getD 19 0)) (y:=.int 2) (b1:=false) (b2:=false) (AX ns cs i xs G (b1:=b) (b3:=true) (x5:=x5) (x6:=x6) (x7:=x7) M 19 (by decide)) rfl (eB _ (by decide))) eh) (am (b:=false) rfl rfl)) (dg _ (by simp))) (c9 (n:=3) (by simp) (gC (bF _) (gC g.gd gN))).fl e2))),_,_,_,_,_,_,_,rfl⟩;exact(pR (xs:=cs) (i:=(i:Int)) (by omega) (by simpa using hi)).trans (by rw[Int.toNat_natCast]))
 exact⟨false,ar rfl (jN (ds:=cs.map .int) (ae (ds:=[.lst (ns.map .int)]) rfl hc) (fW _) (dj (jO (eZ (j:=cs.length) (b:=false) (ae (ds:=[.lst (cs.map .int)]) rfl (by simp)) (by omega)) e) (ao rfl)))⟩
end Lw
namespace Lw
open PySem PySem.Spec PyProof.Rows L2 DL
noncomputable def gh (i:Nat):Stmt:=PySem.Challenge.pw_sealchain_k07_rows_told.main.body.getD i (.Pass ⟨0,0,0,0⟩)
section
variable {X:Cx}{es BH:QD}{f:FE}{g:FA}{pos:Pos}{k:Nat}
def eE {c:Const}(h:JE X (.Constant c k pos) f)(hr:JA X es g):JA X (.Constant c k pos::es) (aa f g):=af h hr
def fL (h:JE X (.Tuple BH k pos) f)(hr:JA X es g):JA X (.Tuple BH k pos::es) (aa f g):=af h hr
def AZ (h:JE X (.List BH pos) f)(hr:JA X es g):JA X (.List BH pos::es) (aa f g):=af h hr
def Ba {a b:Expr}{o:Operator}(h:JE X (.BinOp a o b pos) f)(hr:JA X es g):JA X (.BinOp a o b pos::es) (aa f g):=af h hr
def C1 {a:Expr}{o:UnaryOp}(h:JE X (.UnaryOp o a pos) f)(hr:JA X es g):JA X (.UnaryOp o a pos::es) (aa f g):=af h hr
end
structure Tx (w:World)(K:Frag)(mg:Str->Option Value):Prop where
 hX:∃h,K.In h/\h.Ns mainGlobals mg
 d0:eC K "is_whole" (gh 3)
 d1:eC K "is_day" (gh 4)
 d2:eC K "is_stretch" (gh 5)
 d3:eC K "is_matters" (gh 6)
 d4:eC K "is_name" (gh 14)
 d5:eC K "is_rule" (gh 16)
 d6:eC K "is_piece" (gh 15)
 d7:eC K "is_pieces" (gh 17)
 d8:eC K "is_change" (gh 18)
 d9:eC K "is_changes" (gh 19)
 d10:eC K "is_part" (gh 20)
 d11:eC K "is_deed" (gh 21)
 d12:eC K "word_of" (gh 24)
 d13:eC K "part_of" (gh 25)
 d14:eC K "day_of" (gh 26)
 d15:eC K "is_timely" (gh 22)
 d16:eC K "is_row" (gh 23)
 d17:eC K "_law_cells" (gh 28)
 d18:eC K "_law_stream" (gh 29)
 d19:eC K "_law_name" (gh 30)
 d20:eC K "_law_stretch" (gh 31)
 d21:eC K "_law_changes" (gh 32)
 d22:eC K "_law_deed" (gh 33)
 d23:eC K "_law_wrong" (gh 34)
 d24:eC K "_law_bent" (gh 35)
 d25:eC K "_law_whole" (gh 36)
 d26:eC K "_law_is_name" (gh 37)
 d27:eC K "_law_is_stretch" (gh 38)
 d28:eC K "_law_is_changes" (gh 39)
 d29:eC K "_law_is_pieces" (gh 40)
 d30:eC K "_law_fits" (gh 41)
 d31:eC K "_law_signs" (gh 42)
 d32:eC K "_law_due" (gh 43)
 d33:eC K "law" (gh 44)
 n0:mg "all" = none
 n1:mg "bool" = none
 n2:mg "int" = none
 n3:mg "isinstance" = none
 n4:mg "len" = none
 n5:mg "list" = none
 n6:mg "max" = none
 n7:mg "min" = none
 n8:mg "range" = none
 n9:mg "str" = none
 n10:mg "tuple" = none
 n11:mg "zip" = none
 k0:KC K mg "ALL_MATTERS" eM
 k1:KC K mg "LAST_DAY" gI
 k2:KC K mg "MOST_FURTHER" fX
 k3:KC K mg "MOST_LETTERS" ej
 k4:KC K mg "MOST_PIECES" dw
 k5:KC K mg "MOST_ROWS" iU
 k6:KD w K mg "PARTS" bd
 k7:KC K mg "RULES" pT
section
variable {P:Program}{w:World}{K:Frag}{mg:SV}{base:Heap}(T:Tx w K mg)
include T
theorem f0:Fn P w K mg base 1 "is_whole" cU:=T.d0.fq T.hX jQ ["thing","least","most"] 3 λnd hr hu=>
  (bA (eJ (av aC T.n3 aB (aF 0 (af (cD T.n2 wp) ah))) (eJ (xI (av aC T.n3 aB (aF 0 (af (cD T.n1 rW) ah)))) (dY (mq eV eV (ai 1) (ai 0) (ai 2))))))
theorem f1:Fn P w K mg base 2 "is_day" fg:=T.d1.fq T.hX mS ["thing"] 1 λnd hr hu=>
  (bA (ci (f0 T) hr (aF 0 (br (af (dC T.k1) ah)))))
theorem f2:Fn P w K mg base 3 "is_stretch" dP:=T.d2.fq T.hX hG ["thing"] 1 λnd hr hu=>
  (aj (aU (eD (bY (bo (bt (av aC T.n3 aB (aF 0 (af (cD T.n10 bK) ah))))) (bY (a8 (km hu) (av cn T.n4 cr (aF 0 ah)) al) (cm (bo (bt (ci (f1 T) hr (af (aJ 0) ah)))))))) bO)
   (bA (pr (cR nU (aJ 0) eI) (dY (eJ (ci (f1 T) hr (af (aJ 0) ah)) (dY (cR jB (aJ 0) (aJ 0))))))))
theorem f3:Fn P w K mg base 2 "is_matters" fH:=T.d3.fq T.hX hJ ["thing"] 1 λnd hr hu=>
  (bA (ci (f0 T) hr (aF 0 (br (af (dC T.k0) ah)))))
theorem f4:Fn P w K mg base 1 "is_name" dS:=T.d4.fq T.hX kR ["thing"] 1 λnd hr hu=>
  (aj (aU (eD (bY (bo (bt (av aC T.n3 aB (aF 0 (af (cD T.n9 kH) ah))))) (cm (bo (j9 eV eV al (av cn T.n4 cr (aF 0 ah)) (dC T.k3)))))) bO)
   (bA (av mC T.n0 m5 (af (fU ["sign"] (eK (ai 0)) fD (mq eV eV au (ai 0) au)) ah))))
theorem f5:Fn P w K mg base 1 "is_rule" iD:=T.d5.fq T.hX kS ["thing"] 1 λnd hr hu=>
  (bA (eJ (av aC T.n3 aB (aF 0 (af (cD T.n9 kH) ah))) (dY (cR wo (ai 0) (dC T.k7)))))
theorem f6:Fn P w K mg base 2 "is_piece" fJ:=T.d6.fq T.hX jR ["thing"] 1 λnd hr hu=>
  (bA (bH (f4 T) hr))
theorem f7:Fn P w K mg base 3 "is_pieces" fY:=T.d7.fq T.hX iV ["thing"] 1 λnd hr hu=>
  (aj (aU (eD (bY (bo (bt (av aC T.n3 aB (aF 0 (af (cD T.n10 bK) ah))))) (cm (bo (j9 eV eV al (av cn T.n4 cr (aF 0 ah)) (dC T.k4)))))) bO)
   (bA (av mC T.n0 m5 (af (fU ["piece"] (eK (ai 0)) fD (bH (f6 T) hr)) ah))))
theorem f8:Fn P w K mg base 3 "is_change" dE:=T.d8.fq T.hX iW ["thing"] 1 λnd hr hu=>
  (aj (aU (eD (bY (bo (bt (av aC T.n3 aB (aF 0 (af (cD T.n10 bK) ah))))) (cm (a8 (km hu) (av cn T.n4 cr (aF 0 ah)) al)))) bO)
   (bA (eJ (ci (f0 T) hr (af (aJ 0) (br (af (a0 mr (dC T.k4) al) ah)))) (dY (ci (f6 T) hr (af (aJ 0) ah))))))
theorem f9:Fn P w K mg base 4 "is_changes" fK:=T.d9.fq T.hX hQ ["thing","places"] 1 λnd hr hu=>
  (aj (aU (eD (bY (bo (bt (av aC T.n3 aB (aF 0 (af (cD T.n10 bK) ah))))) (cm (bo (bt (av mC T.n0 m5 (af (fU ["change"] (eK (ai 0)) fD (bH (f8 T) hr)) ah))))))) bO)
   (aj (A8 ["change"] nd (eK (ai 0)) fD (aJ 0))
   (bA (av mC T.n0 m5 (af (fU ["place","later"] (sr T.n11 (ai 1) (bP (ai 1) (bR al) cQ)) fD (cR jB (ai 0) (ai 1))) ah)))))
theorem f10:Fn P w K mg base 5 "is_part" iE:=T.d10.fq T.hX kT ["part","thing"] 2 λnd hr hu=>
  (aj (aU (eD (bY (a8 (cg hu) (ai 0) au) (cm (a8 (cg hu) (ai 0) au)))) (bH (f1 T) hr))
   (aj (aU (eD (bY (a8 (cg hu) (ai 0) au) (bY (a8 (cg hu) (ai 0) au) (cm (a8 (cg hu) (ai 0) au))))) (bH (f4 T) hr))
   (aj (aU (a8 (cg hu) (ai 0) au) (pr (cR nU (ai 1) eI) (dY (bH (f4 T) hr))))
   (aj (aU (a8 (cg hu) (ai 0) au) (bH (f3 T) hr))
   (aj (aU (a8 (cg hu) (ai 0) au) (bH (f2 T) hr))
   (aj (aU (a8 (cg hu) (ai 0) au) (ci (f0 T) hr (aF 1 (br (af (dC T.k2) ah)))))
   (aj (aU (a8 (cg hu) (ai 0) au) (bH (f5 T) hr))
   (aj (aU (a8 (cg hu) (ai 0) au) (ci (f0 T) hr (aF 1 (br (af (a0 mr (dC T.k5) al) ah)))))
   (aj (aU (a8 (cg hu) (ai 0) au) (bH (f7 T) hr))
   (bA (bH (f9 T) hr)))))))))))
theorem f11:Fn P w K mg base 6 "is_deed" cV:=T.d11.fq T.hX kU ["thing"] 1 λnd hr hu=>
  (aj (aU (eD (bY (bo (bt (av aC T.n3 aB (aF 0 (af (cD T.n10 bK) ah))))) (bY (a8 (cg hu) (av cn T.n4 cr (aF 0 ah)) al) (cm (bo (bt (av aC T.n3 aB (af (aJ 0) (af (cD T.n9 kH) ah))))))))) bO)
   (aj (aU (eD (bY (qE T.k6 (aJ 0)) (cm (a8 (km hu) (av cn T.n4 cr (aF 0 ah)) (a0 bL al (av cn T.n4 cr (af (pG T.k6 (aJ 0)) ah))))))) bO)
   (bA (av mC T.n0 m5 (af (fU ["part","value"] (sr T.n11 (pG T.k6 (aJ 0)) (bP (ai 0) (bR al) cQ)) fD (bH (f10 T) hr)) ah)))))
theorem C2:Fn P w K mg base 1 "word_of" dU:=T.d12.fq T.hX kW ["row"] 1 λnd hr hu=>
  (bA (cJ (aJ 0) al))
theorem Dv:Fn P w K mg base 2 "part_of" ft:=T.d13.fq T.hX kX ["row","part"] 2 λnd hr hu=>
  (bA (cJ (aJ 0) (a0 bL al (uO T.k6 (bH (C2 T) hr) (ai 1)))))
theorem Et:Fn P w K mg base 3 "day_of" mU:=T.d14.fq T.hX mT ["row"] 1 λnd hr hu=>
  (aj (aU (a8 (cg hu) (bH (C2 T) hr) au) eI)
   (bA (bH (Dv T) hr)))
theorem Eu:Fn P w K mg base 4 "is_timely" dF:=T.d15.fq T.hX iX ["row","day"] 1 λnd hr hu=>
  (aj (aR nd (bH (Et T) hr))
   (aj (aU (a8 nU (ai 1) eI) bO)
   (aj (aU (eD (rP (a8 (cg hu) (bH (C2 T) hr) au) (pq (a8 jB (bH (Dv T) hr) (ai 1))))) bO)
   (bA (cR eV (ai 1) (aJ 0))))))
theorem Dw:Fn P w K mg base 7 "is_row" ca:=T.d16.fq T.hX mV ["thing"] 1 λnd hr hu=>
  (aj (aU (eD (bY (bo (bt (av aC T.n3 aB (aF 0 (af (cD T.n10 bK) ah))))) (cm (a8 (km hu) (av cn T.n4 cr (aF 0 ah)) al)))) bO)
   (bA (eJ (ci (f1 T) hr (af (aJ 0) ah)) (eJ (ci (f11 T) hr (af (aJ 0) ah)) (dY (bH (Eu T) hr))))))
theorem Ev:Fn P w K mg base 1 "_law_cells" kZ:=T.d17.fq T.hX kY ["_law_script"] 1 λnd hr hu=>
  (aj (aU (a8 (cg hu) (av cn T.n4 cr (aF 0 ah)) al) (cf (br ah)))
   (bA (bP (ai 0) cQ (bR al))))
theorem Ex:Fn P w K mg base 1 "_law_stream" gJ:=T.d18.fq T.hX jS ["_law_cell","_law_salt","_law_many","_law_found","_law_number","_law_k"] 3 λnd hr hu=>
  (aj (aR nd (cf ah))
   (aj (aR nd (a0 bw (a0 bL (a0 bL (a0 iu (a0 bw (ai 0) al) al) (a0 iu (a0 iu (ai 1) (ai 1)) al)) al) al))
   (aj (wy (jD T.n8 (ai 2)) (yg 5 nd) gS (aj (aR nd (a0 bw (a0 bL (a0 bL (a0 bL (a0 iu (ai 4) (ai 4)) (a0 iu al (ai 4))) (ai 5)) (ai 1)) al))
   (cZ (rS (i:=3) (ai 4)))))
   (cZ (u9 3)))))
theorem C3:Fn P w K mg base 1 "_law_name" db:=T.d19.fq T.hX mW ["_law_x","_law_letters"] 1 λnd hr hu=>
  (aj (aR nd au)
   (bA (xT PySem.F.slot_str_join PySem.F.type_str_join xV si au (fU ["_law_k","_law_letters","_law_x"] (mB T.n8 (a0 bL al (a0 bw (ai 0) al))) fD (cJ (ai 1) (a0 bw (a0 bL (a0 cY (ai 2) al) (a0 iu (ai 0) (a0 cY (ai 2) al))) al))))))
theorem Ey:Fn P w K mg base 1 "_law_stretch" fZ:=T.d20.fq T.hX iZ ["_law_x","_law_y","_law_start"] 2 λnd hr hu=>
  (aj (aR nd (cJ (cf (af (a0 bw (a0 cY (ai 0) al) al) (af (a0 bw (a0 cY (ai 0) al) al) (br (br ah))))) (a0 bw (ai 0) al)))
   (aj (aU (a8 (cg hu) (a0 bw (ai 1) al) al) (aV (aF 2 (af eI ah))))
   (bA (aV (aF 2 (af (cJ (cf (af (a0 bL (a0 bL (ai 2) al) (a0 bw (a0 cY (ai 1) al) (a0 mr al (ai 2)))) (br ah))) (a0 bw (a0 cY (ai 1) al) al)) ah))))))
theorem Ez:Fn P w K mg base 2 "_law_changes" dG:=T.d21.fq T.hX ja ["_law_xs","_law_found","_law_place","_law_x"] 1 λnd hr hu=>
  (aj (aR nd (cf ah))
   (aj (aR nd al)
   (aj (wx (eK (ai 0)) (yg 3 nd) gS (aj (aR nd (a0 bL (ai 2) (a0 bw (ai 3) al)))
   (aj (iS (a8 jB (ai 2) al) (cZ (rS (i:=1) (aV (aF 2 (af (ci (C3 T) hr (af (a0 cY (ai 3) al) ah)) ah))))) ir)
   (cZ (aR nd (a0 bL (ai 2) al))))))
   (bA (cH gm T.n10 bK (af (bP (ai 1) cQ (bR (a0 bw (a0 cY (aJ 0) al) al))) ah))))))
theorem E1:Fn P w K mg base 3 "_law_deed" jT:=T.d22.fq T.hX nc ["_law_xs","_law_day","_law_one","_law_two","_law_three","_law_matters","_law_small","_law_number","_law_part","_law_whom","_law_word"] 1 λnd hr hu=>
  (aj (aR nd (cJ (cf (af (a0 bw (aJ 0) al) (af (a0 bw (aJ 0) al) (br (br ah))))) (a0 bw (a0 cY (aJ 0) al) al)))
   (aj (uN (is:=[2,3,4]) (fU ["_law_x"] (eK (bP (ai 0) (bR al) (bR al))) fD (bH (C3 T) hr)) (xY rfl (dW (yg 2 nd) (dW (yg 3 nd) (dW (yg 4 nd) lu)))))
   (aj (aR nd (cJ (cf (af (a0 bL al (a0 bw (aJ 0) al)) (br (br ah)))) (a0 bw (a0 cY (aJ 0) al) al)))
   (aj (aR nd (cJ (cf (af (a0 bw (aJ 0) al) (br (br ah)))) (a0 bw (a0 cY (aJ 0) al) al)))
   (aj (aR nd (cJ (cf (af (a0 bw (aJ 0) al) (br (br ah)))) (a0 bw (a0 cY (aJ 0) al) al)))
   (aj (aR nd (ci (Ey T) hr (af (aJ 0) (af (aJ 0) ah))))
   (aj (aR nd (cJ (cf (af eI (aF 4 ah))) (a0 bw (aJ 0) al)))
   (aj (aR nd (a0 bw (aJ 0) al))
   (aj (aU (a8 (cg hu) (ai 10) al) (aV (af au (aF 2 (aF 5 (aF 6 (af (cJ (cf (af au (af au (af au ah)))) (a0 bw (aJ 0) al)) ah)))))))
   (aj (aU (a8 (cg hu) (ai 10) al) (aV (af au (aF 1 (aF 2 (aF 3 (aF 4 (af (av Ap T.n7 An (br (af (a0 bL (ai 1) (a0 bw (aJ 0) al)) ah))) ah))))))))
   (aj (aU (a8 (cg hu) (ai 10) al) (aV (af au (aF 1 (aF 2 (aF 3 (aF 5 (aF 8 (aF 6 ah)))))))))
   (aj (aU (a8 (cg hu) (ai 10) al) (aV (af au (aF 1 (aF 2 (aF 5 (aF 8 (aF 9 (af (cH gm T.n10 bK (af (fU ["_law_x"] (eK (bP (ai 0) (bR al) (bR (a0 bL al (a0 bw (a0 cY (aJ 0) al) al))))) fD (bH (C3 T) hr)) ah)) ah)))))))))
   (aj (aU (a8 (cg hu) (ai 10) al) (aV (af au (aF 1 (aF 2 (aF 5 (aF 8 (aF 9 (aF 7 (af (ci (Ez T) hr (af (bP (ai 0) (bR al) (bR al)) ah)) ah))))))))))
   (aj (aU (a8 jB (ai 10) al) (aV (af (cJ (cf (af au (af au ah))) (a0 mr (ai 10) al)) (aF 1 (aF 2 (aF 7 ah))))))
   (aj (aU (a8 jB (ai 10) al) (aV (af (cJ (cf (af au (af au (af au ah)))) (a0 mr (ai 10) al)) (aF 1 (aF 2 ah)))))
   (aj (aU (a8 (cg hu) (ai 10) al) (aV (af au (aF 1 (aF 2 (aF 3 (aF 4 ah)))))))
   (bA (aV (af au (aF 1 (aF 2 (aF 3 ah))))))))))))))))))))))
theorem E2:Fn P w K mg base 1 "_law_wrong" iF:=T.d23.fq T.hX la ["_law_x","_law_some"] 1 λnd hr hu=>by
  refine @aj _ _ _ _ _ ?_ ?_;refine @aR _ _ _ _ 1 _ _ nd ?_ rfl (by first|exact Or.inl rfl|exact Or.inr rfl) rfl (by first|exact .inl rfl|exact .inr rfl);refine @cf _ _ _ _ ?_;refine eE ?_ ?_;exact bO;refine eE ?_ ?_;exact bO;refine eE ?_ ?_;exact eI;refine C1 ?_ ?_;refine @Ab _ _ _ _ _ _ Ak ?_;exact al;refine @br _ _ _ _ _ _ ?_;refine @br _ _ _ _ _ _ ?_;refine @br _ _ _ _ _ _ ?_;refine @br _ _ _ _ _ _ ?_;refine @br _ _ _ _ _ _ ?_;refine @br _ _ _ _ _ _ ?_;refine eE ?_ ?_;exact au;refine eE ?_ ?_;exact au;refine eE ?_ ?_;exact au;refine eE ?_ ?_;exact au;refine eE ?_ ?_;exact au;refine AZ ?_ ?_;refine @cf _ _ _ _ ?_;exact ah;refine fL ?_ ?_;refine @aV _ _ _ _ _ ?_;exact ah;refine fL ?_ ?_;refine @aV _ _ _ _ _ ?_;refine @br _ _ _ _ _ _ ?_;refine @br _ _ _ _ _ _ ?_;exact ah;exact ah;refine @aj _ _ _ _ _ ?_ ?_;refine @aR _ _ _ _ 1 _ _ nd ?_ rfl (by first|exact Or.inl rfl|exact Or.inr rfl) rfl (by first|exact .inl rfl|exact .inr rfl);refine @a0 _ _ _ _ _ _ _ _ bL ?_ ?_;exact(ai 1);refine @cf _ _ _ _ ?_;refine fL ?_ ?_;refine @aV _ _ _ _ _ ?_;refine eE ?_ ?_;exact au;exact ah;refine AZ ?_ ?_;refine @cf _ _ _ _ ?_;refine eE ?_ ?_;exact au;exact ah;refine fL ?_ ?_;refine @aV _ _ _ _ _ ?_;refine @br _ _ _ _ _ _ ?_;refine @br _ _ _ _ _ _ ?_;exact ah;refine fL ?_ ?_;refine @aV _ _ _ _ _ ?_;refine @br _ _ _ _ _ _ ?_;refine @br _ _ _ _ _ _ ?_;exact ah;refine fL ?_ ?_;refine @aV _ _ _ _ _ ?_;refine @br _ _ _ _ _ _ ?_;refine eE ?_ ?_;exact au;exact ah;refine fL ?_ ?_;refine @aV _ _ _ _ _ ?_;refine @br _ _ _ _ _ _ ?_;refine eE ?_ ?_;exact au;exact ah;refine fL ?_ ?_;refine @aV _ _ _ _ _ ?_;refine fL ?_ ?_;refine @aV _ _ _ _ _ ?_;refine @br _ _ _ _ _ _ ?_;refine eE ?_ ?_;exact au;exact ah;refine fL ?_ ?_;refine @aV _ _ _ _ _ ?_;refine @br _ _ _ _ _ _ ?_;refine eE ?_ ?_;exact au;exact ah;exact ah;refine fL ?_ ?_;refine @aV _ _ _ _ _ ?_;refine fL ?_ ?_;refine @aV _ _ _ _ _ ?_;refine @br _ _ _ _ _ _ ?_;refine eE ?_ ?_;exact au;exact ah;refine fL ?_ ?_;refine @aV _ _ _ _ _ ?_;refine @br _ _ _ _ _ _ ?_;refine eE ?_ ?_;exact au;exact ah;exact ah;exact ah;refine @aj _ _ _ _ _ ?_ ?_;refine @aR _ _ _ _ 1 _ _ nd ?_ rfl (by first|exact Or.inl rfl|exact Or.inr rfl) rfl (by first|exact .inl rfl|exact .inr rfl);refine @a0 _ _ _ _ _ _ _ _ bL ?_ ?_;exact(ai 1);refine @cf _ _ _ _ ?_;refine fL ?_ ?_;refine @aV _ _ _ _ _ ?_;refine fL ?_ ?_;refine @aV _ _ _ _ _ ?_;refine @br _ _ _ _ _ _ ?_;refine eE ?_ ?_;exact au;exact ah;exact ah;refine Ba ?_ ?_;refine @a0 _ _ _ _ _ _ _ _ yh ?_ ?_;refine @aV _ _ _ _ _ ?_;refine eE ?_ ?_;exact au;exact ah;exact al;refine fL ?_ ?_;refine @aV _ _ _ _ _ ?_;refine @br _ _ _ _ _ _ ?_;refine eE ?_ ?_;exact au;exact ah;refine Ba ?_ ?_;refine @a0 _ _ _ _ _ _ _ _ Ag ?_ ?_;exact al;exact al;refine fL ?_ ?_;refine @aV _ _ _ _ _ ?_;refine eE ?_ ?_;exact eI;refine @br _ _ _ _ _ _ ?_;exact ah;refine eE ?_ ?_;exact au;refine fL ?_ ?_;refine @aV _ _ _ _ _ ?_;refine @br _ _ _ _ _ _ ?_;refine @br _ _ _ _ _ _ ?_;refine @br _ _ _ _ _ _ ?_;exact ah;refine fL ?_ ?_;refine @aV _ _ _ _ _ ?_;refine eE ?_ ?_;exact bO;refine @br _ _ _ _ _ _ ?_;exact ah;refine @br _ _ _ _ _ _ ?_;exact ah;exact(bA (cJ (ai 1) (a0 bw (ai 0) (av cn T.n4 cr (aF 1 ah)))))
theorem Dx:∀n,Fn P w K mg base (2+n) "_law_bent" (dc n)
 |0=>T.d24.fq (k:=1) T.hX oh ["_law_parts","_law_xs","_law_found","_law_at","_law_form"] 2 λnd hr hu=>qF
 |n+1=>T.d24.fq (k:=2+n) T.hX (ng (dc n)) ["_law_parts","_law_xs","_law_found","_law_at","_law_form"] 2 λnd hr hu=>
  (aj (aR nd (cH oi T.n5 nW (aF 0 ah)))
   (aj (aU (a8 (cg hu) (av cn T.n4 cr (aF 2 ah)) al) (aV (af (a0 bw (aJ 1) al) ah)))
   (aj (aR nd (a0 bw (aJ 1) (av cn T.n4 cr (aF 2 ah))))
   (aj (iS (eD (rP (bt (av aC T.n3 aB (af (cJ (ai 2) (ai 3)) (af (cD T.n10 bK) ah)))) (pq (a8 u7 (a0 bw (aJ 1) al) al)))) (aj (uQ (i:=2) (Dx n) hr (vT _) (ai 3) (bP (ai 1) (bR al) cQ) (ai 3))
   (bA (cH gm T.n10 bK (aF 2 ah)))) ir)
   (aj (aR nd (a0 bw (a0 cY (aJ 1) al) al))
   (aj (aU (a8 (cg hu) (ai 4) al) (cH gm T.n10 bK (af (a0 bL (bP (ai 2) cQ (bR (ai 3))) (bP (ai 2) (bR (a0 bL (ai 3) al)) cQ)) ah)))
   (aj (aU (a8 (cg hu) (ai 4) al) (cH gm T.n10 bK (af (a0 bL (a0 bL (bP (ai 2) cQ (bR (ai 3))) (cf (af (cJ (ai 2) (ai 3)) ah))) (bP (ai 2) (bR (ai 3)) cQ)) ah)))
   (aj (uP (i:=2) (ci (hj:=by omega) (E2 T) hr (af (aJ 1) ah)) (ai 3))
   (bA (cH gm T.n10 bK (aF 2 ah)))))))))))
theorem v0:Fn P w K mg base 1 "_law_whole" bg:=T.d25.fq T.hX lb ["_law_thing","_law_low","_law_high"] 3 λnd hr hu=>
  (aj (aU (eD (bY (a8 nU (ai 0) bO) (bY (a8 nU (ai 0) bO) (cm (bo (bt (av aC T.n3 aB (aF 0 (af (cD T.n2 wp) ah))))))))) bO)
   (bA (eJ (cR eV (ai 1) (ai 0)) (dY (cR eV (ai 0) (ai 2))))))
theorem B6:Fn P w K mg base 1 "_law_is_name" cw:=T.d26.fq T.hX jc ["_law_thing"] 1 λnd hr hu=>
  (aj (aU (eD (bY (bo (bt (av aC T.n3 aB (aF 0 (af (cD T.n9 kH) ah))))) (bY (a8 (cg hu) (av cn T.n4 cr (aF 0 ah)) al) (cm (a8 u7 (av cn T.n4 cr (aF 0 ah)) al))))) bO)
   (bA (cR (cg hu) (av cn T.n4 cr (af (fU ["_law_sign"] (eK (ai 0)) (nR (bo (j9 eV eV au (ai 0) au))) (ai 0)) ah)) al)))
theorem E3:Fn P w K mg base 2 "_law_is_stretch" et:=T.d27.fq T.hX ga ["_law_thing"] 1 λnd hr hu=>
  (aj (aU (eD (bY (bo (bt (av aC T.n3 aB (aF 0 (af (cD T.n10 bK) ah))))) (bY (a8 (km hu) (av cn T.n4 cr (aF 0 ah)) al) (cm (bo (bt (ci (v0 T) hr (af (aJ 0) (br (br ah)))))))))) bO)
   (bA (pr (cR nU (aJ 0) eI) (dY (ci (v0 T) hr (af (aJ 0) (af (a0 bL (aJ 0) al) (br ah))))))))
theorem E4:Fn P w K mg base 2 "_law_is_changes" eA:=T.d28.fq T.hX gb ["_law_thing","_law_low","_law_part"] 1 λnd hr hu=>
  (aj (aU (bo (bt (av aC T.n3 aB (aF 0 (af (cD T.n10 bK) ah))))) bO)
   (aj (aR nd al)
   (aj (wx (eK (ai 0)) (yg 2 nd) gS (aj (aU (eD (bY (bo (bt (av aC T.n3 aB (aF 2 (af (cD T.n10 bK) ah))))) (cm (a8 (km hu) (av cn T.n4 cr (aF 2 ah)) al)))) bO)
   (aj (aU (eD (bY (bo (bt (ci (v0 T) hr (af (aJ 2) (aF 1 (br ah)))))) (cm (bo (bt (ci (B6 T) hr (af (aJ 2) ah))))))) bO)
   (cZ (aR nd (a0 bL (aJ 2) al))))))
   (bA bO))))
theorem E5:Fn P w K mg base 2 "_law_is_pieces" eN:=T.d29.fq T.hX gz ["_law_thing"] 1 λnd hr hu=>
  (aj (aU (eD (bY (bo (bt (av aC T.n3 aB (aF 0 (af (cD T.n10 bK) ah))))) (bY (a8 (cg hu) (av cn T.n4 cr (aF 0 ah)) al) (cm (a8 u7 (av cn T.n4 cr (aF 0 ah)) al))))) bO)
   (bA (cR (cg hu) (av cn T.n4 cr (af (fU ["_law_piece"] (eK (ai 0)) (nR (bo (bt (bH (B6 T) hr)))) (ai 0)) ah)) al)))
theorem E6:Fn P w K mg base 3 "_law_fits" hV:=T.d30.fq T.hX ni ["_law_sign","_law_thing","_law_day"] 3 λnd hr hu=>
  (aj (aU (a8 (cg hu) (ai 0) au) (bH (B6 T) hr))
   (aj (aU (a8 (cg hu) (ai 0) au) (pr (cR nU (ai 1) eI) (dY (bH (B6 T) hr))))
   (aj (aU (a8 (cg hu) (ai 0) au) (ci (v0 T) hr (aF 1 (br (br ah)))))
   (aj (aU (a8 (cg hu) (ai 0) au) (ci (v0 T) hr (aF 1 (br (br ah)))))
   (aj (aU (a8 (cg hu) (ai 0) au) (ci (v0 T) hr (aF 1 (br (br ah)))))
   (aj (aU (a8 (cg hu) (ai 0) au) (bH (E3 T) hr))
   (aj (aU (a8 (cg hu) (ai 0) au) (ci (v0 T) hr (aF 1 (aF 2 (br ah)))))
   (aj (aU (a8 (cg hu) (ai 0) au) (bH (E4 T) hr))
   (aj (aU (a8 (cg hu) (ai 0) au) (bH (E5 T) hr))
   (bA (eJ (cR (cg hu) (ai 0) au) (eJ (av aC T.n3 aB (aF 1 (af (cD T.n9 kH) ah))) (dY (cR wo (ai 1) (aV (af au (af au (af au ah))))))))))))))))))
theorem E7:Fn P w K mg base 1 "_law_signs" iG:=T.d31.fq T.hX le ["_law_word","_law_some","_law_more"] 1 λnd hr hu=>by
  refine @aj _ _ _ _ _ ?_ ?_;refine @pJ _ _ _ _ _ _ 1 _ _ nd ?_ rfl rfl rfl (cons_ne_nil _ _) (by decide) (by first|exact Or.inl rfl|exact Or.inr rfl) rfl (by first|exact .inl rfl|exact .inr rfl);refine @cE _ _ _ _ _ _ _ _ _ _ au au ?_;refine @cE _ _ _ _ _ _ _ _ _ _ au au ?_;refine @cE _ _ _ _ _ _ _ _ _ _ au au ?_;refine @cE _ _ _ _ _ _ _ _ _ _ au au ?_;refine @cE _ _ _ _ _ _ _ _ _ _ au au ?_;refine @cE _ _ _ _ _ _ _ _ _ _ au au ?_;refine @cE _ _ _ _ _ _ _ _ _ _ au au ?_;exact pI;refine @aj _ _ _ _ _ ?_ ?_;refine @pJ _ _ _ _ _ _ 2 _ _ nd ?_ rfl rfl rfl (cons_ne_nil _ _) (by decide) (by first|exact Or.inl rfl|exact Or.inr rfl) rfl (by first|exact .inl rfl|exact .inr rfl);refine @cE _ _ _ _ _ _ _ _ _ _ au au ?_;refine @cE _ _ _ _ _ _ _ _ _ _ au au ?_;refine @cE _ _ _ _ _ _ _ _ _ _ au au ?_;refine @cE _ _ _ _ _ _ _ _ _ _ au au ?_;exact pI;exact bA (mM (Dq hu) (ai 1) (ai 0) (mM (Dq hu) (ai 2) (ai 0) au ⟨rfl,rfl,rfl,rfl⟩) ⟨rfl,rfl,rfl,rfl⟩)
theorem Dy:Fn P w K mg base 4 "_law_due" cI:=T.d32.fq T.hX pU ["_law_thing","_law_deed_here","_law_signs_here","_law_rest","_law_day"] 1 λnd hr hu=>
  (aj (aU (eD (bY (bo (bt (av aC T.n3 aB (aF 0 (af (cD T.n10 bK) ah))))) (bY (a8 (km hu) (av cn T.n4 cr (aF 0 ah)) al) (cm (bo (bt (ci (v0 T) hr (af (aJ 0) (br (br ah)))))))))) bO)
   (aj (aR nd (aJ 0))
   (aj (aU (eD (bY (bo (bt (av aC T.n3 aB (aF 1 (af (cD T.n10 bK) ah))))) (bY (a8 jB (av cn T.n4 cr (aF 1 ah)) al) (cm (bo (bt (av aC T.n3 aB (af (aJ 1) (af (cD T.n9 kH) ah))))))))) bO)
   (aj (aR nd (ci (E7 T) hr (af (aJ 1) ah)))
   (aj (aR nd (bP (ai 1) (bR al) cQ))
   (aj (aR nd al)
   (aj (iS (a8 (cg hu) (aJ 1) au) (aj (aR nd au)
   (cZ (aR nd (bP (ai 1) (bR al) cQ)))) (cZ (iS (bt (ci (v0 T) hr (af (aJ 1) (br (af (aJ 0) ah))))) (cZ (aR nd (aJ 1))) (bA bO))))
   (aj (aU (a8 (km hu) (av cn T.n4 cr (aF 3 ah)) (av cn T.n4 cr (aF 2 ah))) bO)
   (bA (cR (cg hu) (av cn T.n4 cr (af (fU ["_law_k","_law_day","_law_signs_here","_law_rest"] (mB T.n8 (av cn T.n4 cr (aF 3 ah))) (nR (bo (bt (ci (E6 T) hr (af (cJ (ai 2) (ai 0)) (af (cJ (ai 3) (ai 0)) (aF 1 ah))))))) (ai 0)) ah)) al))))))))))
theorem head {O:Addr}(M:mg "law" = some (.ref O)):∃fd:FuncData,(∀(s:Shared)(u:Value),BindsTo s fd ⟨[u],[]⟩ [("_law_script",u)])/\∀base:Heap,K.In base->base.Ns mainGlobals mg->iN P w K mg base nM 9 O fd ["_law_script"] (wl K F_law):=by
 have S:FnScope ["_law_script","_law_cells_here","_law_k","_law_xs","_law_deed_here","_law_row","_law_thing","_law_found"] ["_law_script"] (aG (gh 44)):=by refine⟨rfl,rfl,rfl,?_,rfl,?_,?_⟩<;>decide +kernel
 have ⟨h,X,G⟩:=T.hX;exact eC.law T.d33 X G M S (λ_ _ _ _ _ _ u=>rfl) λbase U nb f cL A outer s H E hr=>have hu:=Aj hr;have nd:=S.nd;(show lA _ _ wz from
  (aj (aR nd (bH (Ev T) hr))
   (aj (wy (jD T.n8 (av cn T.n4 cr (aF 1 ah))) (yg 2 nd) gS (aj (aR nd (ci (Ex T) hr (af (cJ (ai 1) (ai 2)) (aF 2 (br ah)))))
   (aj (aR nd (bH (E1 T) hr))
   (aj (aR nd (aV (af (cJ (cf (br (af (a0 bw (aJ 3) al) ah))) (a0 bw (aJ 3) al)) (aF 4 ah))))
   (aj (iS (a8 (km hu) (aJ 4) au) (cZ (aR nd (aV (af (av Ao T.n6 Am (af (aJ 5) (af (aJ 4) ah))) (aF 4 ah))))) ir)
   (aj (aU (eD (bY (a8 uE (bH (Dw T) hr) bO) (cm (bo (bt (bH (Dy T) hr)))))) bO)
   (aj (aR nd (ai 5))
   (aj (iS (a8 u7 (a0 bw (aJ 3) al) al) (cZ (aR nd (ci ((Dx T) 6) hr (aF 5 (af (bP (ai 3) (bR al) cQ) ah))))) ir)
   (aj (iS (a8 (cg hu) (a0 bw (aJ 3) al) al) (cZ (aR nd (by refine cJ (hs:=?_) ?_ ?_;refine cf ?_;refine af (cH oi T.n5 nW (aF 5 ah)) ?_;refine aF 4 ?_;refine af (aV (af (aJ 5) ah)) ?_;refine af (aV ah) ?_;refine af (aV (af (aJ 5) (af (cH oi T.n5 nW (aF 4 ah)) ah))) ?_;refine af (aV (af (aJ 4) (aF 4 ah))) ?_;exact ah;exact(a0 bw (aJ 3) al);intro _ _;rfl))) ir)
   (aj (aR nd (bH (Dw T) hr))
   (cZ (aU (eD (bY (bo (bt (av aC T.n3 aB (aF 7 (af (cD T.n1 rW) ah))))) (cm (a8 (km hu) (ai 7) (bH (Dy T) hr))))) bO))))))))))))
   (bA bO))))
end
end Lw
end
namespace PySem.W.Fast
def tw17082592494305908630:=()
def tw952876801688222363:=()
def tw4409866148915495483:=()
def tw12254885459526751725:=()
def tw3192158365878261756:=()
def tw15082864337331034894:=()
def tw16045053110984096349:=()
def tw1723560785743027194:=()
def tw17310335330898942716:=()
def tw6866794968209602093:=()
def tw16014818125086512210:=()
def tw8477462353614040308:=()
def tw2007612858807539712:=()
def tw10939224745100845412:=()
def tw7725583289303648053:=()
def tw9946522038380178600:=()
def tw14774307401430812413:=()
def tw9400264871514729658:=()
def tw17985142849837928881:=()
def tw7482178279169417053:=()
def tw13625066980917219958:=()
def tw13739490126761011812:=()
def tw2037451616788187607:=()
def tw9244927524227335962:=()
def tw830920840103280730:=()
def tw8831358876451118545:=()
def tw2998609531677830049:=()
def tw208392147010334321:=()
def tw5495632968030272590:=()
def tw6900607632840406089:=()
def tw2607095415911184553:=()
def tw17328964457153045783:=()
def tw15882587683292701955:=()
def tw4785185720564626546:=()
def tw10128141929819989830:=()
def tw14856794142688951307:=()
def tw6655422445429019622:=()
def tw12636462839416365713:=()
def tw15446217890944511636:=()
def tw4815774309238499044:=()
def tw11902795005662366797:=()
def tw10639811705729835310:=()
def tw2972878129068603824:=()
def tw7454827177796826615:=()
def tw1217404353822000755:=()
def tw12177621214270112325:=()
def tw17394949238734625162:=()
def tw6416537477033327522:=()
def tw3358010681265788201:=()
def tw15935713530689007199:=()
def tw2911105877282796124:=()
def tw3811829505592300981:=()
def tw5745599003012669310:=()
def tw14620020377939861454:=()
def tw15728755524624688195:=()
def tw2910326765130030670:=()
def tw15512932228779333675:=()
def tw3188982870849768440:=()
def tw10634742420137234253:=()
def tw9905506382694660936:=()
def tw4892696656003753531:=()
def tw477846173703921353:=()
def tw3755376670181727731:=()
def tw1928115066966769696:=()
def tw5954222959759631456:=()
def tw11949878390910266808:=()
def tw16678400414769594068:=()
def tw9772668912708525681:=()
def tw2536718091629957934:=()
def tw6928310516378050061:=()
def tw2543689152206129584:=()
def tw17154813985766744176:=()
def tw5498915324654046018:=()
end PySem.W.Fast
open PySem PySem.W PyProof.Rows
set_option maxRecDepth 100000 in
set_option maxHeartbeats 0 in
theorem PySem.Challenge.cw_sealchain_k07_rows_told_holds : PySem.Challenge.rw_sealchain_k07_rows_told.Holds := by
 w_on; o_law; k_head; (case hw => w_witness2)
 k_fill
 refine' DL.walkD (l := PySem.Challenge.rw_sealchain_k07_rows_told) (k := 9) (x := ("_law_script" : PySem.Str)) (f := Lw.F_law) (L := [(("in_order" : PySem.Str), ?t0), (("has_seal" : PySem.Str), ?t1), (("is_first_death" : PySem.Str), ?t2), (("bases_by" : PySem.Str), ?t3)]) rfl rfl ⟨rfl, by decide, by decide⟩ (fun w h Y => PySem.W.kIn_of Y) ?T ?D ?F Lw.law_true
 case T =>
  intro w
  refine' DL.tabs_fit ?h0 ?h1 ?h2 ?h3 ?ap ?nt
  (case h0 => refine' DL.tab_no ?a; (case a => k_is))
  (case h1 => refine' DL.tab_no ?a; (case a => k_is))
  (case h2 => refine' DL.tab_no ?a; (case a => k_is))
  (case h3 => refine' DL.tab_no ?a; (case a => k_is))
  (case ap => decide)
  (case nt => kernel_rfl)
 case D => kernel_rfl
 case F =>
  intro w mg fa h KX G hmg
  refine' Lw.head ⟨⟨h, KX, G⟩, ?d0, ?d1, ?d2, ?d3, ?d4, ?d5, ?d6, ?d7, ?d8, ?d9, ?d10, ?d11, ?d12, ?d13, ?d14, ?d15, ?d16, ?d17, ?d18, ?d19, ?d20, ?d21, ?d22, ?d23, ?d24, ?d25, ?d26, ?d27, ?d28, ?d29, ?d30, ?d31, ?d32, ?d33, PySem.W.mg_none_of KX G ?z0, PySem.W.mg_none_of KX G ?z1, PySem.W.mg_none_of KX G ?z2, PySem.W.mg_none_of KX G ?z3, PySem.W.mg_none_of KX G ?z4, PySem.W.mg_none_of KX G ?z5, PySem.W.mg_none_of KX G ?z6, PySem.W.mg_none_of KX G ?z7, PySem.W.mg_none_of KX G ?z8, PySem.W.mg_none_of KX G ?z9, PySem.W.mg_none_of KX G ?z10, PySem.W.mg_none_of KX G ?z11, DL.kc_of KX G ?k0, DL.kc_of KX G ?k1, DL.kc_of KX G ?k2, DL.kc_of KX G ?k3, DL.kc_of KX G ?k4, DL.kc_of KX G ?k5, DL.kd_of KX G ?k6, DL.kc_of KX G ?k7⟩ hmg
  iterate 34 (refine' DL.def_mk ?a ?l ?c ?k; (case a => k_is); (case l => k_is); (case c => k_is); (case k => k_is))
  (case z0 => k_is)
  (case z1 => k_is)
  (case z2 => k_is)
  (case z3 => k_is)
  (case z4 => k_is)
  (case z5 => k_is)
  (case z6 => k_is)
  (case z7 => k_is)
  (case z8 => k_is)
  (case z9 => k_is)
  (case z10 => k_is)
  (case z11 => k_is)
  (case k0 => refine' DL.const_int ?e; (case e => k_is))
  (case k1 => refine' DL.const_int ?e; (case e => k_is))
  (case k2 => refine' DL.const_int ?e; (case e => k_is))
  (case k3 => refine' DL.const_int ?e; (case e => k_is))
  (case k4 => refine' DL.const_int ?e; (case e => k_is))
  (case k5 => refine' DL.const_int ?e; (case e => k_is))
  (case k6 => refine' DL.const_dict ?e ?l ?r ?s; (case e => k_is); (case l => k_is); (case r => refine' (DL.CRows.tup rfl ?l0 ?f0 (DL.CRows.tup rfl ?l1 ?f1 (DL.CRows.tup rfl ?l2 ?f2 (DL.CRows.tup rfl ?l3 ?f3 (DL.CRows.tup rfl ?l4 ?f4 (DL.CRows.tup rfl ?l5 ?f5 (DL.CRows.tup rfl ?l6 ?f6 (DL.CRows.tup rfl ?l7 ?f7 (DL.CRows.tup rfl ?l8 ?f8 (DL.CRows.tup rfl ?l9 ?f9 (DL.CRows.tup rfl ?l10 ?f10 (DL.CRows.tup rfl ?l11 ?f11 DL.CRows.nil)))))))))))); (case l0 => k_is); (case f0 => decide +kernel); (case l1 => k_is); (case f1 => decide +kernel); (case l2 => k_is); (case f2 => decide +kernel); (case l3 => k_is); (case f3 => decide +kernel); (case l4 => k_is); (case f4 => decide +kernel); (case l5 => k_is); (case f5 => decide +kernel); (case l6 => k_is); (case f6 => decide +kernel); (case l7 => k_is); (case f7 => decide +kernel); (case l8 => k_is); (case f8 => decide +kernel); (case l9 => k_is); (case f9 => decide +kernel); (case l10 => k_is); (case f10 => decide +kernel); (case l11 => k_is); (case f11 => decide +kernel)); (case s => decide +kernel))
  (case k7 => refine' DL.const_tup ?e ?l ?v; (case e => k_is); (case l => k_is); (case v => decide +kernel))

