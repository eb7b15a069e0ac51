import PyProof.Rows.All
import Wide.All
import OpenK.AllK
import Wide.FinOn
import Lean
import PyProof.EqAt
import PyProof.EqKinds
import PyProof.TupleCall
import PyProof.AttrMissHeap
import KE.KIntText
import PySem.Challenge.RW_sealchain_k48_registers_written_and_read
set_option Elab.async false
set_option linter.all false
set_option maxRecDepth 100000
set_option bootstrap.genMatcherCode false
set_option compiler.extract_closed false
set_option maxHeartbeats 40000000
theorem mY {α:Type _}{a:α}(l:List α){k:List α}(h:a∈k):a∈l++k:=List.mem_append_right l h
theorem mZ {α:Type _}(b:α){a:α}{l:List α}(h:a∈l):a∈b::l:=List.mem_cons_of_mem b h
theorem mX {α:Type _}{a:α}{l:List α}:a∈a::l:=List.mem_cons_self
theorem oX {α β:Type _}{o:Option α}{f:α->Option β}{b:β}(h:o.bind f=some b):∃a,o=some a/\f a=some b:=Option.bind_eq_some_iff.mp h
theorem oY {α β:Type _}{f:α->β}{o:Option α}{b:β}(h:o.map f=some b):∃a,o=some a/\f a=b:=Option.map_eq_some_iff.mp h
def wX:=@PySem.wpAny_bind
def wY:=@PySem.wpAny_pure
def vZ:=@PySem.Heap.get?_push_of_some
def vY:=@PySem.Heap.get?_push_size
def vX:=@PySem.Heap.lt_size
def vW:=@PySem.Heap.SameBut.update
theorem vV {α:Type _}{l:List α}{i:Nat}{a:α}(h:l[i]? = some a):∃h:i<l.length,l[i]=a:=List.getElem?_eq_some_iff.mp h
theorem vU {α:Type _}{l:List α}{i:Nat}(h:i<l.length):l[i]? = some l[i]:=List.getElem?_eq_getElem h
theorem vT (n:Nat):n<=n:=Nat.le_refl n
theorem vS {a b:Nat}(h:a<b):a≠b:=Nat.ne_of_lt h
theorem vR {n m k:Nat}:n<=m->m<=k->n<=k:=Nat.le_trans
theorem vQ {n m k:Nat}:n<m->m<=k->n<k:=Nat.lt_of_lt_of_le
theorem vP {α:Type _}{a b:α}{l:List α}(h:b∈a::l):b=a∨b∈l:=List.mem_cons.mp h
theorem vO {α β:Type _}{b:β}{f:α->β}{l:List α}(h:b∈l.map f):∃a,a∈l/\f a=b:=List.mem_map.mp h
theorem vK {α:Type _}{a b:α}(h:some a=some b):a=b:=Option.some.inj h
theorem vJ {α β:Type _}(a:α)(f:α->Option β):(some a).bind f=f a:=rfl
theorem vI {α β:Type _}{as:List α}(f:α->β):(as.map f).length=as.length:=List.length_map f
theorem vH {α:Type _}{l:List α}:l.toArray.size=l.length:=rfl
theorem vG {α:Type _}{xs:Array α}:xs.toList.length=xs.size:=rfl
theorem vE {α:Type _}{a:α}{as:List α}:(a::as).length=as.length+1:=rfl
theorem vD (a b:Bool):((a && b)=true)=(a=true/\b=true):=Bool.and_eq_true a b
theorem vC {α:Type _}{i j:Nat}{a:α}{l:List α}(h:i≠j):(l.set i a)[j]? = l[j]?:=List.getElem?_set_ne h
theorem vB {α β:Type _}{f:α->β}{l:List α}{i:Nat}:(l.map f)[i]? = Option.map f l[i]?:=List.getElem?_map
theorem vA {α:Type _}{as bs:List α}:(as++bs).length=as.length+bs.length:=List.length_append
theorem uZ {α β:Type _}{f:α->β}{a:α}{l:List α}:(a::l).map f=f a::l.map f:=rfl
theorem uY:false≠true:=Bool.false_ne_true
theorem uX {α β:Type _}{f:α->β}{l l':List α}:(l++l').map f=l.map f++l'.map f:=List.map_append
theorem uW:(false=true)=False:=Bool.false_eq_true
theorem uU {α:Type _}{a b:α}(h:a∈[b]):a=b:=List.mem_singleton.mp h
theorem uR {α:Type _}{l:List α}{p:α->Bool}(h:l.all p=true):∀x∈l,p x=true:=List.all_eq_true.mp h
theorem uQ {α:Type _}(as:List α):as++[]=as:=List.append_nil as
theorem uP {α β γ:Type _}{g:β->γ}{f:α->β}{l:List α}:(l.map f).map g=l.map (g ∘ f):=List.map_map
theorem uM (n:Nat):0<=n:=Nat.zero_le n
noncomputable section
open PySem.W (Frag kia_one fnOf nsIn mg_of)
namespace L2
open PySem PySem.Spec PyProof.Rows
abbrev dL:=Sum Int Str
noncomputable def nI:dL->Value->Bool
 |.inl k,v=>Value.isInt k v
 |.inr x,v=>Value.isStrOf x v
noncomputable def JX (w:World):dL->Int
 |.inl k=>hashInt k
 |.inr x=>hashStr w x
theorem bT:∀ {k:dL}{v:Value},nI k v=true->(∃i t,k=Sum.inl i/\v=Value.int i t)∨(∃x t,k=Sum.inr x/\v=Value.str x t)
 |.inl i,v,h=>by
  obtain⟨t,e⟩:=Value.isInt_shape (k:=i) (v:=v) h;exact .inl ⟨i,t,rfl,e⟩
 |.inr x,v,h=>by
  obtain⟨t,e⟩:=Value.isStrOf_shape (x:=x) (v:=v) h;exact .inr ⟨x,t,rfl,e⟩
theorem w9 (i:Int)(t:Tok):nI (.inl i) (.int i t)=true:=by simp[nI,Value.isInt]
theorem wA (x:Str)(t:Tok):nI (.inr x) (.str x t)=true:=by simp[nI,Value.isStrOf]
theorem DU (a b:Int):decide ((Sum.inl a:dL)=Sum.inl b)=(a == b):=by
 by_cases e:a=b
 ·subst e;simp
 ·have h:¬(Sum.inl a:dL)=Sum.inl b:=λq=>e (Sum.inl.inj q);rw[decide_eq_false h];exact(beq_eq_false_iff_ne.mpr e).symm
theorem DV (a b:Str):decide ((Sum.inr a:dL)=Sum.inr b)=decide (a=b):=by
 by_cases e:a=b
 ·subst e;simp
 ·have h:¬(Sum.inr a:dL)=Sum.inr b:=λq=>e (Sum.inr.inj q);rw[decide_eq_false h,decide_eq_false e]
theorem DW (a:Int)(b:Str):decide ((Sum.inl a:dL)=Sum.inr b)=false:=decide_eq_false (λq=>nomatch q)
theorem DX (a:Str)(b:Int):decide ((Sum.inr a:dL)=Sum.inl b)=false:=decide_eq_false (λq=>nomatch q)
def ci (prog:Program)(w:World):PySem.KeyKind prog w dL where
 is:=nI
 hash:=JX w
 inj:=λv a b ha hb=>by
  rcases bT ha with⟨i,t,rfl,rfl⟩|⟨x,t,rfl,rfl⟩
  ·rcases bT hb with⟨j,u,rfl,e⟩|⟨y,u,rfl,e⟩
   ·injection e with e1 _;rw[e1]
   ·exact nomatch e
  ·rcases bT hb with⟨j,u,rfl,e⟩|⟨y,u,rfl,e⟩
   ·exact nomatch e
   ·injection e with e1 _;rw[e1]
 byValue:=λk v h=>by
  rcases bT h with⟨i,t,rfl,rfl⟩|⟨x,t,rfl,rfl⟩<;>rfl
 pyHash:=λhv h=>by
  rcases bT hv with⟨i,t,rfl,rfl⟩|⟨x,t,rfl,rfl⟩
  ·exact wpAny_pyHash_int h
  ·exact wpAny_pyHash_str h
 eqBool:=λhu hv h=>by
  rcases bT hu with⟨i,t,rfl,rfl⟩|⟨x,t,rfl,rfl⟩
  ·rcases bT hv with⟨j,u,rfl,rfl⟩|⟨y,u,rfl,rfl⟩
   ·rw[DU]at h;exact wpAny_eqBool_int h
   ·rw[DW]at h;exact SeqAt.EqAt.int_str i t y u _ _ _ _ h
  ·rcases bT hv with⟨j,u,rfl,rfl⟩|⟨y,u,rfl,rfl⟩
   ·rw[DX]at h;exact SeqAt.EqAt.str_int x t j u _ _ _ _ h
   ·rw[DV]at h;exact wpAny_eqBool_str h
 «strs»:=λk x t v h=>by
  rcases bT h with⟨i,u,rfl,e⟩|⟨y,u,rfl,e⟩
  ·exact nomatch e
  ·injection e with e1 _;subst e1;cases v<;>rfl
theorem qy (prog:Program)(w:World)(i:Int)(t:Tok):(ci prog w).is (.inl i) (.int i t)=true:=w9 i t
theorem qz (prog:Program)(w:World)(x:Str)(t:Tok):(ci prog w).is (.inr x) (.str x t)=true:=wA x t
inductive V where
 |non|bl (b:Bool)|int (i:Int)|str (x:Str)|byt (b:Array UInt8)|flt (b:UInt64)|ref (a:Addr)|ty (n:String)
 deriving DecidableEq
def aK:V->Value->Prop
 |.non,u=>u=Value.none
 |.bl b,u=>u=Value.bool b
 |.int i,u=>∃t,u=Value.int i t
 |.str x,u=>∃t,u=Value.str x t
 |.byt b,u=>∃t,u=Value.bytes b t
 |.flt b,u=>∃t,u=Value.float b t
 |.ref a,u=>u=Value.ref a
 |.ty n,u=>u=Value.type n
abbrev aP:List V->List Value->Prop:=Paired aK
theorem aP.length (r:aP xs us):xs.length=us.length:=Paired.length r
theorem aP.get:∀ {xs:List V}{us:List Value}{i:Nat}{x:V},aP xs us->xs[i]? = some x->∃u,us[i]? = some u/\aK x u
 |_,_,_,_,.nil,e=>by simp at e
 |_,_,0,_,.cons r _,e=>by simp at e;subst e;exact⟨_,rfl,r⟩
 |_,_,i+1,x,.cons _ t,e=>by
  obtain⟨u,h1,h2⟩:=aP.get (i:=i) (x:=x) t (by simpa using e);exact⟨u,by simpa using h1,h2⟩
theorem aP.set (r:aK x u):∀ {xs:List V}{us:List Value}(i:Nat),aP xs us->aP (xs.set i x) (us.set i u)
 |_,_,_,.nil=>.nil
 |_,_,0,.cons _ t=>.cons r t
 |_,_,i+1,.cons q t=>.cons q (aP.set r i t)
theorem aP.append:∀ {xs ys:List V}{us ws:List Value},aP xs us->aP ys ws->aP (xs++ys) (us++ws)
 |_,_,_,_,.nil,s=>s
 |_,_,_,_,.cons r t,s=>.cons r (aP.append t s)
theorem aP.take:∀ {xs:List V}{us:List Value}(n:Nat),aP xs us->aP (xs.take n) (us.take n)
 |_,_,0,_=>.nil
 |_,_,_+1,.nil=>.nil
 |_,_,n+1,.cons r t=>.cons r (aP.take n t)
theorem aP.drop:∀ {xs:List V}{us:List Value}(n:Nat),aP xs us->aP (xs.drop n) (us.drop n)
 |_,_,0,r=>r
 |_,_,_+1,.nil=>.nil
 |_,_,n+1,.cons _ t=>aP.drop n t
theorem aP.none_of:∀ {xs:List V}{us:List Value}{i:Nat},aP xs us->xs[i]? = none->us[i]? = none:=λ{xs us i} r e=>by
 have h1:=r.length;have h2:xs.length<=i:=List.getElem?_eq_none_iff.mp e;exact List.getElem?_eq_none_iff.mpr (by omega)
def nj:Option V->Option Value->Prop
 |some v,some u=>aK v u
 |none,none=>True
 |_,_=>False
def KV {κ:Type}:List (κ×V)->List (κ×Value)->Prop:=Paired λ(p:κ×V) (q:κ×Value)=>p.1=q.1/\aK p.2 q.2
noncomputable def kV:dL->V
 |.inl i=>.int i
 |.inr x=>.str x
inductive HO where
  |lst (xs:List V)
  |tup (xs:List V)
  |dK (aG:List (dL×V)) (ob:Obj)|dT (aG:List (List dL×V))
  |set (S:Int->Bool) (n:Nat)
  |ins (C dx:Addr) (fs:List (Str×V))
  |own (x:Addr)
  |xd (fs:List (Str×V))
  |met (f x:Addr)
  |rng (lo hi:Int)
  |frz (o:Obj) (u:HO)
  |tbl (q:Str)
  |ext (φ:Heap->Prop)
abbrev Hp:=Addr->Option HO
noncomputable def upd (H:Hp)(a:Addr)(o:HO):Hp:=λb=>if b=a then some o else H b
theorem ay:upd H a o a=some o:=by unfold upd;rw[if_pos rfl]
theorem a9 (h:b≠a):upd H a o b=H b:=by unfold upd;rw[if_neg h]
theorem lr:upd (upd H a o) a u=upd H a u:=by
 funext b;unfold upd;split<;>rfl
theorem bx {H:Hp}{a b:Addr}{o:HO}(h:H a=some o)(h':H b=none):a≠b:=by
 intro e;subst e;rw[h]at h';cases h'
section
variable (P:Program) (w:World)
def br (H:Hp)(h:Heap)(a:Addr):HO->Prop
 |.lst xs=>xs.length<=sizeLine/\∃(its:List Value)(n:Nat),aP xs its/\h.get? a=some { cls:=.type "list",data:=.seq its.toArray n }
 |.tup xs=>xs.length<=sizeLine/\∃its:List Value,aP xs its/\IsTup h a its.toArray
 |.dK aG ob=>h.get? a=some ob/\aG.length<=sizeLine/\(a == sysModules)=false/\∃vs,KV aG vs/\h.DictOf (ci P w) a vs
 |.dT aG=>aG.length<=sizeLine/\(a == sysModules)=false/\∃xs:List (List dL×Addr×Value),
   Paired (λ(p:List dL×V) (q:List dL×Addr×Value)=>p.1=q.1/\H q.2.1=some (.tup (p.1.map kV))/\aK p.2 q.2.2) aG xs /\
   ∃o es ep,h.get? a=some o/\o.ExactDict/\o.data=.dict es ep/\es.toList=xs.map (entryOfKey (tupleKind (ci P w)))/\(xs.map (·.1)).Nodup
 |.set S n=>h.SetOf (intKind P w) a S n
 |.ins C dx fs=>H dx=some (.own a)/\fs.length<=1000/\dx≠a/\h.get? a=some (PySem.W.instObj C dx) /\
   ∃mA,h.Ns1 dx mA/\(∀f,nj (fs.lookup f) (mA f))/\PySem.Within mA (fs.map (·.1))
 |.own _=>∃o,h.get? a=some o
 |.xd fs=>∃mA,h.Ns1 a mA/\∀f,nj (fs.lookup f) (mA f)
 |.rng lo hi=>∃t u v,h.get? a=some { cls:=.type "range",data:=.fields #[.int lo t,.int hi u,.int 1 v] }
 |.frz o u=>h.get? a=some o/\br H h a u
 |.tbl q=>∃ps:Array Value,h.get? a=some { cls:=.none,data:=.fields ps }/\TriplesOk ps.toList/\∀pos cv,codeAmong pos ps.toList=some cv->∃(c:Addr)(oc:Obj)(u:HO)(vs:Array Value)(t:Tok),cv=.ref c/\H c=some (.frz oc u)/\oc.data=.fields vs/\vs[1]? = some (.str q t)
 |.met f x=>h.get? a=some (PySem.W.methodObj (.ref f) (.ref x))
 |.ext φ=>φ h/\(∃o,h.get? a=some o)/\∀h1 h2:Heap,φ h1->(∀o,h1.get? a=some o->h2.get? a=some o)->φ h2
def j4 (H:Hp)(h:Heap):Prop:=∀a o,H a=some o->br P w H h a o
end
section
variable {P:Program}{w:World}{H H':Hp}{h h':Heap}{a:Addr}{o:HO}
theorem br.lt (x:br P w H h a o):a<h.objs.size:=by
 cases o with
 |lst xs=>obtain⟨_,_,_,_,e⟩:=x;exact vX e
 |tup xs=>obtain⟨_,_,_,p⟩:=x;exact p.lt
 |dK aG ob=>exact vX (And.left x)
 |dT aG=>obtain⟨_,_,_,_,o,_,_,e,_⟩:=x;exact vX e
 |set S n=>obtain⟨o,_,_,_,e,_⟩:=x;exact vX e
 |ins C dx fs=>obtain⟨_,_,_,e,_⟩:=x;exact vX e
 |own y=>obtain⟨_,e⟩:=x;exact vX e
 |xd fs=>obtain⟨_,⟨_,_,_,e,_⟩,_⟩:=x;exact vX e
 |rng lo hi=>obtain⟨_,_,_,e⟩:=x;exact vX e
 |frz ob u=>obtain⟨e,_⟩:=x;exact vX e
 |tbl q=>obtain⟨_,e,_⟩:=x;exact vX e
 |met f y=>exact vX (show h.get? a=some _ from x)
 |ext φ=>obtain⟨_,⟨_,e⟩,_⟩:=x;exact vX e
theorem Paired.mapP {α β:Type}{F G:α->β->Prop}:∀ {l₁:List α}{l₂:List β},Paired F l₁ l₂->(∀a b,F a b->G a b)->Paired G l₁ l₂
 |_,_,.nil,_=>.nil
 |_,_,.cons r t,f=>.cons (f _ _ r) (Paired.mapP t f)
theorem br.stay (x:br P w H h a o)(k:∀b u,(b=a∨H b=some (.own a))->h.get? b=some u->h'.get? b=some u)
  (ho:∀b,H b=some (.own a)->H' b=some (.own a)) (ht:∀b xs,H b=some (.tup xs)->H' b=some (.tup xs)) (hf:∀b o u,H b=some (.frz o u)->H' b=some (.frz o u)):br P w H' h' a o:=by
 induction o with
 |lst xs=>obtain⟨z,its,n,r,e⟩:=x;exact⟨z,its,n,r,k _ _ (.inl rfl) e⟩
 |tup xs=>obtain⟨z,its,r,ob,e,c⟩:=x;exact⟨z,its,r,ob,k _ _ (.inl rfl) e,c⟩
 |dK aG My=>obtain⟨g,z,y,vs,r,ob,es,ep,e,c⟩:=x;exact⟨k _ _ (.inl rfl) g,z,y,vs,r,ob,es,ep,k _ _ (.inl rfl) e,c⟩
 |dT aG=>
  obtain⟨z,y,xs,r,ob,es,ep,e,c⟩:=x;exact⟨z,y,xs,Paired.mapP r λp q z=>⟨z.1,ht _ _ z.2.1,z.2.2⟩,ob,es,ep,k _ _ (.inl rfl) e,c⟩
 |set S n=>obtain⟨ob,es,ep,t,e,c⟩:=x;exact⟨ob,es,ep,t,k _ _ (.inl rfl) e,c⟩
 |ins C dx fs=>
  obtain⟨d,z,ne,e,mA,⟨od,es,ep,e2,c⟩,r⟩:=x;exact⟨ho _ d,z,ne,k _ _ (.inl rfl) e,mA,⟨od,es,ep,k _ _ (.inr d) e2,c⟩,r⟩
 |own y=>obtain⟨ob,e⟩:=x;exact⟨ob,k _ _ (.inl rfl) e⟩
 |xd fs=>obtain⟨mA,⟨od,es,ep,e,c⟩,r⟩:=x;exact⟨mA,⟨od,es,ep,k _ _ (.inl rfl) e,c⟩,r⟩
 |rng lo hi=>obtain⟨t,u,v,e⟩:=x;exact⟨t,u,v,k _ _ (.inl rfl) e⟩
 |frz ob u ih=>obtain⟨e,q⟩:=x;exact⟨k _ _ (.inl rfl) e,ih q⟩
 |tbl q=>obtain⟨ps,e,t,c⟩:=x;exact⟨ps,k a _ (.inl rfl) e,t,λpos cv z=>let ⟨d,oc,u,vs,tk,z1,z2,z3⟩:=c pos cv z;⟨d,oc,u,vs,tk,z1,hf _ _ _ z2,z3⟩⟩
 |met f y=>
  have e:h.get? a=some (PySem.W.methodObj (.ref f) (.ref y)):=x;show h'.get? a=some (PySem.W.methodObj (.ref f) (.ref y));exact k a _ (.inl rfl) e
 |ext φ=>obtain⟨p,⟨o,e⟩,st⟩:=x;exact⟨st _ _ p λo q=>k _ _ (.inl rfl) q,⟨o,k _ _ (.inl rfl) e⟩,st⟩
theorem j4.lt (x:j4 P w H h)(e:H a=some o):a<h.objs.size:=(x a o e).lt
theorem j4.fresh (x:j4 P w H h)(e:h.objs.size<=a):H a=none:=by
 cases q:H a with
 |none=>rfl
 |some u=>exact absurd (vQ (x.lt q) e) (Nat.lt_irrefl _)
theorem j4.kept (x:j4 P w H h)(k:∀b u,h.get? b=some u->h'.get? b=some u):j4 P w H h':=λa o e=>
 (x a o e).stay (λb u _ q=>k b u q) (λ_ q=>q) (λ_ _ q=>q) λ_ _ _ q=>q
theorem j4.laid (x:j4 P w H h)(k:∀b u,h.get? b=some u->h'.get? b=some u)(hp:h.objs.size<=a)(new:br P w (upd H a o) h' a o):j4 P w (upd H a o) h':=λb u e=>by
 have hn:=x.fresh hp;by_cases hb:b=a
 ·subst hb;rw[ay]at e;cases e;exact new
 ·rw[a9 hb]at e;exact(x b u e).stay (λc v _ q=>k c v q) (λc q=>by rw[a9 (bx q hn)];exact q) (λc xs q=>by rw[a9 (bx q hn)];exact q) λc o xs q=>by rw[a9 (bx q hn)];exact q
end
def Rd (H:Hp)(a:Addr)(u:HO):Prop:=H a=some u∨∃o,H a=some (.frz o u)
theorem Rd.of (h:H a=some u):Rd H a u:=.inl h
theorem Rd.ok (r:Rd H a u)(x:j4 P w H h):br P w H h a u:=by
 rcases r with r|⟨o,r⟩
 ·exact x a u r
 ·obtain⟨_,q⟩:=x a _ r;exact q
def G4:Option HO->Prop
 |some (.lst _)=>True
 |some (.dK _ _)=>True
 |some (.dT _)=>True
 |some (.set _ _)=>True
 |some (.ins _ _ _)=>True
 |some (.ext _)=>True
 |_=>False
section
variable {P:Program}{w:World}{H:Hp}{h h':Heap}{x e:Addr}{o':HO}
theorem j4.write (ok:j4 P w H h)(mu:G4 (H x))(he:e=x∨H e=some (.own x))(k:∀b u,b≠e->h.get? b=some u->h'.get? b=some u)(Gv:∃u,h'.get? e=some u)
  (new:br P w (upd H x o') h' x o'):j4 P w (upd H x o') h':=λb u q=>by
 have Iu:∀c y,H c=some (.own y)->c≠x:=λc y r z=>by subst z;rw[r]at mu;exact mu
 have KL:∀c xs,H c=some (.tup xs)->c≠x:=λc xs r z=>by subst z;rw[r]at mu;exact mu
 by_cases hb:b=x
 ·subst hb;rw[ay]at q;cases q;exact new
 ·rw[a9 hb]at q;by_cases hbe:b=e
  ·have q':H b=some (.own x):=by
    rcases he with z|z
    ·exact absurd (hbe.trans z) hb
    ·rw[hbe];exact z
   rw[q]at q';cases q';obtain⟨v,hv⟩:=Gv;exact⟨v,by rw[hbe];exact hv⟩
  ·refine(ok b u q).stay (λc v hc r=>k c v ?_ r) (λc r=>by rw[a9 (Iu c b r)];exact r) (λc xs r=>by rw[a9 (KL c xs r)];exact r) λc o xs r=>by rw[a9 (λz=>by subst z;rw[r]at mu;exact mu)];exact r
   rcases hc with rfl|hc
   ·exact hbe
   ·rintro rfl;rcases he with z|z
    ·exact Iu c b hc z
    ·rw[hc]at z;cases z;exact hb rfl
end
structure Un (fs ex:List Addr)(H H':Hp)(h h':Heap):Prop where
 keep:∀b o,h.get? b=some o->H b=none->b∉fs->b∉ex->h'.get? b=some o
 slot:∀b o,h.get? b=some o->H b=none->b∈fs->b∉ex->∃sl,h'.get? b=some { o with slots:=sl }
 free:∀b o,h.get? b=some o->H b=none->b∉ex->H' b=none
 there:∀b o,h.get? b=some o->b∉ex->∃o',h'.get? b=some o'
 tups:∀b xs,H b=some (.tup xs)->H' b=some (.tup xs)
 frzs:∀b o u,H b=some (.frz o u)->H' b=some (.frz o u)
 tbls:∀b q,H b=some (.tbl q)->H' b=some (.tbl q)
section
variable {fs Ow ex Qs:List Addr}{H H1 H2:Hp}{h h1 h2 h':Heap}{a x e:Addr}{o:HO}
theorem Un.any (u:Un fs ex H H1 h h1)(q:h.get? b=some ob)(n:H b=none)(hx:b∉ex):∃sl,h1.get? b=some { ob with slots:=sl }:=by
 by_cases hb:b∈fs
 ·exact u.slot b ob q n hb hx
 ·exact⟨ob.slots,u.keep b ob q n hb hx⟩
theorem Un.trans (a:Un fs ex H H1 h h1)(b:Un fs ex H1 H2 h1 h2):Un fs ex H H2 h h2 where
 keep:=λc ob q n hc hx=>b.keep c ob (a.keep c ob q n hc hx) (a.free c ob q n hx) hc hx
 slot:=λc ob q n hc hx=>by
  obtain⟨sl,e1⟩:=a.slot c ob q n hc hx;obtain⟨KN,e2⟩:=b.slot c _ e1 (a.free c ob q n hx) hc hx;exact⟨KN,e2⟩
 free:=λc ob q n hx=>by
  obtain⟨o',e1⟩:=a.there c ob q hx;exact b.free c o' e1 (a.free c ob q n hx) hx
 there:=λc ob q hx=>by
  obtain⟨o',e1⟩:=a.there c ob q hx;exact b.there c o' e1 hx
 tups:=λc xs q=>b.tups c xs (a.tups c xs q)
 frzs:=λc ob xs q=>b.frzs c ob xs (a.frzs c ob xs q)
 tbls:=λc ps q=>b.tbls c ps (a.tbls c ps q)
theorem Un.kept (k:∀b u,h.get? b=some u->h'.get? b=some u):Un fs ex H H h h' :=
 ⟨λb ob q _ _ _=>k b ob q,λb ob q _ _ _=>⟨ob.slots,k b ob q⟩,λ_ _ _ n _=>n,λb ob q _=>⟨ob,k b ob q⟩,λ_ _ q=>q,λ_ _ _ q=>q,λ_ _ q=>q⟩
theorem Un.refl:Un fs ex H H h h:=Un.kept λ_ _ q=>q
theorem Un.laid (k:∀b u,h.get? b=some u->h'.get? b=some u)(hp:h.objs.size<=a)(hn:H a=none):Un fs ex H (upd H a o) h h' where
 keep:=λb u q _ _ _=>k b u q
 slot:=λb u q _ _ _=>⟨u.slots,k b u q⟩
 free:=λb u q n _=>by rw[a9 (vS (vQ (vX q) hp))];exact n
 there:=λb u q _=>⟨u,k b u q⟩
 tups:=λb xs q=>by rw[a9 (bx q hn)];exact q
 frzs:=λb u xs q=>by rw[a9 (bx q hn)];exact q
 tbls:=λb ps q=>by rw[a9 (bx q hn)];exact q
theorem Un.write (mu:G4 (H x))(he:e=x∨H e=some (.own x))(k:∀b u,b≠e->h.get? b=some u->h'.get? b=some u)(Gv:∃u,h'.get? e=some u):Un fs ex H (upd H x o) h h':=by
 have hx:∀b,H b=none->b≠x:=λb n z=>by subst z;rw[n]at mu;exact mu
 have hb:∀b,H b=none->b≠e:=λb n z=>by
  subst z;rcases he with r|r
  ·exact hx b n r
  ·rw[n]at r;cases r
 have hm:∀b u,H b=some u->¬G4 (some u)->b≠x:=λb u q nm z=>by subst z;rw[q]at mu;exact nm mu
 refine⟨λb u q n _ _=>k b u (hb b n) q,λb u q n _ _=>⟨u.slots,k b u (hb b n) q⟩,λb u q n _=>by rw[a9 (hx b n)];exact n,λb u q _=>?_,
  λb xs q=>by rw[a9 (hm b _ q λz=>z)];exact q,λb u xs q=>by rw[a9 (hm b _ q λz=>z)];exact q,λb ps q=>by rw[a9 (hm b _ q λz=>z)];exact q⟩
 by_cases hbe:b=e
 ·subst hbe;exact Gv
 ·exact⟨u,k b u hbe q⟩
end
noncomputable def Jr (h:Heap)(H:Hp):List Addr:=(List.range h.objs.size).filter λa=>(H a).isSome
def q0 (h:Heap)(H:Hp):Heap:=PySem.W.hideAll h (Jr h H)
theorem wB (h:Heap)(H:Hp):(q0 h H).objs.size=h.objs.size:=PySem.W.hideAll_size _ _
theorem lE (e:h.get? b=some o)(n:H b=none):(q0 h H).get? b=some o :=
 PySem.W.hideAll_get _ e λhm=>by
  have q:(H b).isSome=true:=(List.mem_filter.mp hm).2;rw[n]at q;simp at q
theorem Bb (e:(q0 h H).get? b=some o):h.get? b=some o/\H b=none:=by
 have e':h.get? b=some o:=PySem.W.of_hideAll (Jr h H) e;refine⟨e',?_⟩;cases q:H b with
 |none=>rfl
 |some x=>
  have hm:b∈Jr h H:=List.mem_filter.mpr ⟨List.mem_range.mpr (vX e'),by simp[q]⟩;have z:(q0 h H).get? b=none:=PySem.W.hideAll_none (Jr h H) hm;rw[z]at e;cases e
noncomputable def Bc (g h:Heap)(L:Addr):List (Addr×Obj):=(List.range h.objs.size).filterMap λa=>if a=L∨(g.get? a).isSome=true then none else (h.get? a).map λo=>(a,o)
def rest (g h:Heap)(L d:Addr):List (Addr×Obj):=(Bc g h L).filter λp=>decide (p.1≠d)
structure Mod (K:Frag)(mg:Str->Option Value)(base:Heap):Prop where
 kin:K.In base
 glob:base.Ns mainGlobals mg
 blt:∃mb,base.Ns builtinsNs mb/\∀x:Str,x ≠ "__name__"->mb x=bootBuiltins x
 nolimit:base.NoLimit
 bmain:∃bm ob,mg "__builtins__" = some (.ref bm)/\bm≠builtinsNs/\base.get? bm=some ob/\ob.cls=.type "module"/\ob.dict=some builtinsNs/\ob.data=.plain
structure Cx where
 prog:Program
 w:World
 K:Frag
 mg:Str->Option Value
 base:Heap
 A:Around
 N:List Str
 s₀:Shared
 H₀:Hp
 env:Env
 outer:List Env
 stack:List Env
 ex:List Addr
 fn:Str->Bool
 calm:Bool
 pn:List (Addr×Obj)
 xe:Value->Shared->Prop
noncomputable def yj (l:List Env):List Addr:=l.filterMap (·.frame)
abbrev Cx.fs (X:Cx):List Addr:=yj X.outer
def Bd (sc:Scope)(x:Str):Prop:=sc.names.lookup x=some .local∨sc.names.lookup x=some .cell∨sc.names.lookup x=some .free
def De (sc:Scope)(x:Str):Prop:=sc.names.lookup x=some .local∨sc.names.lookup x=some .cell
def JY (env:Env)(h:Heap)(m:Str->Option Value)(x:Str)(u:Value):Prop :=
 (env.kindOf x=some .local/\m x=some u)∨((env.kindOf x=some .cell∨env.kindOf x=some .free)/\∃c,env.cells.lookup x=some c/\h.IsCell c (some u))
abbrev wq {α:Type}(X:Cx):Sem α->(α->Shared->Prop)->(Value->Shared->Prop)->Shared->Prop:=wpAny (model X.prog X.w) X.A
structure Cx.Ok (X:Cx):Prop where
 mod:Mod X.K X.mg X.base
 kind:X.env.scope.kind=.function
 glob:X.env.globals=mainGlobals
 blt:X.env.builtins=builtinsNs
 above:X.s₀.heap.objs.size<=X.env.locals
 inj:∀x y c,X.env.cells.lookup x=some c->X.env.cells.lookup y=some c->x=y
 has:∀x,(X.env.kindOf x=some .cell∨X.env.kindOf x=some .free)->∃c,X.env.cells.lookup x=some c
 cab:∀x c,X.fn x=true->X.env.cells.lookup x=some c->X.s₀.heap.objs.size<=c
 hd:X.calm=true->X.A.handled=none
 frames:X.A.frames=some X.stack
 stk:X.stack=X.outer∨(X.stack=X.env::X.outer/\X.env.frame=some X.env.locals)
 exf:∀b∈X.ex,b≠X.env.locals/\∀x c,X.env.cells.lookup x=some c->c≠b
 bs:∀b o,X.base.get? b=some o->X.s₀.heap.get? b=some o/\X.H₀ b=none
 bsz:X.base.objs.size<=X.s₀.heap.objs.size
 noex:∀b o,X.base.get? b=some o->b∉X.ex
 exfs:∀b∈X.ex,b∉X.fs
 funs:X.s₀.heap.FunFrames X.base X.outer
 frf:∀b∈X.fs,X.H₀ b=none
structure Inv (X:Cx)(aa:List (Addr×Obj))(σ:List (Option V))(H:Hp)(s:Shared):Prop where
 ok:X.Ok
 os:s.os=X.s₀.os
 bare:AllBare s.gens
 base:Un X.fs X.ex X.H₀ H X.s₀.heap s.heap
 loc:∃m,s.heap.Ns X.env.locals m/\∀(i:Nat)(x:Str)(v:V),X.N[i]? = some x->σ[i]? = some (some v)->Bd X.env.scope x->∃u,aK v u/\JY X.env s.heap m x u
 cell:∀x c,X.env.cells.lookup x=some c->∃v,s.heap.IsCell c v
 free:H X.env.locals=none
 freeC:∀x c,X.env.cells.lookup x=some c->H c=none
 pin:∀p∈X.pn++aa,s.heap.get? p.1=some p.2/\H p.1=none/\p.1≠X.env.locals/\p.1∉X.fs/\∀v,p.2.data≠.cell v
 hok:j4 X.prog X.w H s.heap
 len:σ.length=X.N.length
section
variable {X:Cx}{aa:List (Addr×Obj)}{σ:List (Option V)}{H H':Hp}{s:Shared}{h':Heap}
theorem Cx.Ok.nofr (ok:X.Ok)(e:X.base.get? b=some o):b∉X.fs:=λhb=>by
 have:=(ok.funs.mem hb).1;rw[e]at this;cases this
theorem Inv.bs (I:Inv X aa σ H s):∀b o,X.base.get? b=some o->s.heap.get? b=some o/\H b=none:=λb o e=>
 ⟨I.base.keep b o (I.ok.bs b o e).1 (I.ok.bs b o e).2 (I.ok.nofr e) (I.ok.noex b o e),I.base.free b o (I.ok.bs b o e).1 (I.ok.bs b o e).2 (I.ok.noex b o e)⟩
theorem Inv.bk (I:Inv X aa σ H s):∀b o,X.base.get? b=some o->s.heap.get? b=some o:=λb o e=>(I.bs b o e).1
theorem Inv.mod (I:Inv X aa σ H s):Mod X.K X.mg X.base:=I.ok.mod
theorem Inv.kIn (I:Inv X aa σ H s):X.K.In s.heap:=I.ok.mod.kin.keeps I.bk
theorem Inv.lt (I:Inv X aa σ H s):X.env.locals<s.heap.objs.size:=let ⟨_,hn,_⟩:=I.loc;hn.lt
theorem Inv.sz (I:Inv X aa σ H s):X.s₀.heap.objs.size<=s.heap.objs.size:=vR I.ok.above (Nat.le_of_lt I.lt)
theorem Inv.nofs (I:Inv X aa σ H s)(h:s.heap.objs.size<=a):a∉X.fs:=λhb=>by
 obtain⟨_,o,ho,_⟩:=I.ok.funs.mem hb;exact absurd (vQ (vX ho) (vR I.sz h)) (Nat.lt_irrefl _)
theorem Inv.cne (I:Inv X aa σ H s):∀x c,X.env.cells.lookup x=some c->c≠X.env.locals:=λx c e z=>by
 obtain⟨v,o,ho,hd⟩:=I.cell x c e;obtain⟨m,⟨o',es,ep,uu,hd',_⟩,_⟩:=I.loc;rw[z,uu]at ho;cases ho;rw[hd']at hd;cases hd
theorem Inv.funs (I:Inv X aa σ H s):s.heap.FunFrames X.base X.outer:=by
 have all:∀(l:List Env),(∀b∈yj l,b∈X.fs)->X.s₀.heap.FunFrames X.base l->s.heap.FunFrames X.base l:=by
  intro l;induction l with
  |nil=>intro _ _;trivial
  |cons env r ih=>
   intro hs hl;obtain⟨hk,⟨L,o,hf,hn,ho,hd⟩,hr⟩:=hl;have hL:L∈X.fs:=hs L (by unfold yj;rw[List.filterMap_cons,hf];exact mX);obtain⟨sl,e⟩:=I.base.slot L o ho (I.ok.frf L hL) hL λz=>I.ok.exfs L z hL;exact⟨hk,⟨L,_,hf,hn,e,hd⟩,ih (λb hb=>hs b (by unfold yj;rw[List.filterMap_cons,hf];exact mZ _ hb)) hr⟩
 exact all X.outer (λ_ hb=>hb) I.ok.funs
theorem Inv.stack (I:Inv X aa σ H s):s.heap.FunFrames X.base X.stack:=by
 rcases I.ok.stk with e|⟨e,hf⟩
 ·rw[e];exact I.funs
 ·rw[e];obtain⟨m,hn,_⟩:=I.loc;refine .cons (by rw[I.ok.kind];decide) hf hn ?_ I.funs;exact Heap.get?_none_of_le (vR I.ok.bsz I.ok.above)
theorem Inv.stkSub (I:Inv X aa σ H s):∀b∈yj X.stack,b∈X.env.locals::X.fs:=λb hb=>by
 rcases I.ok.stk with e|⟨e,hf⟩
 ·rw[e]at hb;exact mZ _ hb
 ·rw[e]at hb;unfold yj at hb;rw[List.filterMap_cons,hf]at hb;exact hb
theorem Inv.stkFree (I:Inv X aa σ H s):∀b∈yj X.stack,H b=none:=λb hb=>by
 rcases vP (I.stkSub b hb)with e|hb
 ·rw[e];exact I.free
 ·obtain⟨_,o,ho,_⟩:=I.ok.funs.mem hb;exact I.base.free b o ho (I.ok.frf b hb) λz=>I.ok.exfs b z hb
theorem Inv.step {g':Array GenState}{t':Nat}{d':Drawn}{ch:List Addr}(I:Inv X aa σ H s)
  (wn:∀b∈ch,(b∈X.ex∨X.s₀.heap.objs.size<=b)/\b≠X.env.locals/\(∀x c,X.env.cells.lookup x=some c->c≠b)/\∀p∈X.pn++aa,p.1≠b)
  (keep:∀b o,b≠X.env.locals->b∉X.fs->b∉ch->s.heap.get? b=some o->H b=none->h'.get? b=some o)
  (slot:∀b o,b≠X.env.locals->b∈X.fs->b∉ch->s.heap.get? b=some o->H b=none->∃sl,h'.get? b=some { o with slots:=sl }) (free:∀b o,b∉ch->s.heap.get? b=some o->H b=none->H' b=none)
  (there:∀b o,b∉ch->s.heap.get? b=some o->∃o',h'.get? b=some o')
  (tups:∀b xs,H b=some (.tup xs)->H' b=some (.tup xs)) (frzs:∀b o u,H b=some (.frz o u)->H' b=some (.frz o u)) (tbls:∀b q,H b=some (.tbl q)->H' b=some (.tbl q))
  (ns:∀m,s.heap.Ns X.env.locals m->h'.Ns X.env.locals m) (hok:j4 X.prog X.w H' h') (hg:AllBare g'):
  Inv X aa σ H' { s with heap:=h',gens:=g',drawn:=d',toks:=t' }:=by
 have Mz:∀b o,X.s₀.heap.get? b=some o->b≠X.env.locals:=λb o e=>vS (vQ (vX e) I.ok.above);have Gw:∀b o,X.s₀.heap.get? b=some o->b∉X.ex->b∉ch:=λb o e hx hb=>by
  rcases (wn b hb).1 with z|z
  ·exact hx z
  ·exact absurd (vQ (vX e) z) (Nat.lt_irrefl _)
 have DH:∀x c,X.env.cells.lookup x=some c->∀v,s.heap.IsCell c v->h'.IsCell c v:=λx c e v ⟨o,ho,hd⟩=>by
  have Iv:c∉ch:=λz=>(wn c z).2.2.1 x c e rfl;by_cases hc:c∈X.fs
  ·obtain⟨sl,q⟩:=slot c o (I.cne x c e) hc Iv ho (I.freeC x c e);exact⟨_,q,hd⟩
  ·exact⟨o,keep c o (I.cne x c e) hc Iv ho (I.freeC x c e),hd⟩
 refine⟨I.ok,I.os,hg,⟨λb o e n hb hx=>?_,λb o e n hb hx=>?_,λb o e n hx=>?_,λb o e hx=>?_,λb xs e=>tups b xs (I.base.tups b xs e),λb o xs e=>frzs b o xs (I.base.frzs b o xs e),λb ps e=>?_⟩,?_,λx c e=>?_,?_,λx c e=>?_,λp hp=>?_,hok,I.len⟩
 ·exact keep b o (Mz b o e) hb (Gw b o e hx) (I.base.keep b o e n hb hx) (I.base.free b o e n hx)
 ·obtain⟨sl,e1⟩:=I.base.slot b o e n hb hx;obtain⟨KN,e2⟩:=slot b _ (Mz b o e) hb (Gw b o e hx) e1 (I.base.free b o e n hx);exact⟨KN,e2⟩
 ·obtain⟨o',e1⟩:=I.base.there b o e hx;exact free b o' (Gw b o e hx) e1 (I.base.free b o e n hx)
 ·obtain⟨o',e1⟩:=I.base.there b o e hx;exact there b o' (Gw b o e hx) e1
 ·exact tbls b _ (I.base.tbls b ps e)
 ·obtain⟨m,hn,hl⟩:=I.loc;refine⟨m,ns m hn,λi x v e1 e2 e3=>?_⟩;obtain⟨u,r,l⟩:=hl i x v e1 e2 e3;refine⟨u,r,?_⟩;rcases l with l|⟨k,c,e,z⟩
  ·exact .inl l
  ·exact .inr ⟨k,c,e,DH x c e _ z⟩
 ·obtain⟨v,z⟩:=I.cell x c e;exact⟨v,DH x c e v z⟩
 ·obtain⟨m,⟨o,_,_,ho,_⟩,_⟩:=I.loc;exact free _ o (λz=>(wn _ z).2.1 rfl) ho I.free
 ·obtain⟨v,o,ho,hd⟩:=I.cell x c e;exact free c o (λz=>(wn c z).2.2.1 x c e rfl) ho (I.freeC x c e)
 ·obtain⟨e,n,ne,nf,d⟩:=I.pin p hp;have Iv:p.1∉ch:=λz=>(wn p.1 z).2.2.2 p hp rfl;exact⟨keep p.1 p.2 ne nf Iv e n,free p.1 p.2 Iv e n,ne,nf,d⟩
theorem Inv.un {t':Nat}(I:Inv X aa σ H s)(u:Un X.fs [] H H' s.heap h')(hok:j4 X.prog X.w H' h'):Inv X aa σ H' { s with heap:=h',toks:=t' }:=by
 obtain⟨m,⟨o,es,ep,ho,r⟩,_⟩:=id I.loc;obtain⟨sl,hL⟩:=u.any ho I.free (by simp);exact I.step (g':=s.gens) (d':=s.drawn) (ch:=[]) (λ_ z=>nomatch z) (λb o _ hb _ e n=>u.keep b o e n hb (by simp)) (λb o _ hb _ e n=>u.slot b o e n hb (by simp)) (λb o _ e n=>u.free b o e n (by simp)) (λb o _ e=>u.there b o e (by simp)) u.tups u.frzs u.tbls (λm' hm=>by
  obtain⟨o',AT,KO,uu,r'⟩:=hm;rw[ho]at uu;cases uu;exact⟨_,AT,KO,hL,r'⟩) hok I.bare
theorem Inv.call {g':Array GenState}{t':Nat}{d':Drawn}{ch:List Addr}(I:Inv X aa σ H s)(u:Un (yj X.stack) ch H H' s.heap h')(hok:j4 X.prog X.w H' h')(hg:AllBare g')
  (wn:∀b∈ch,(b∈X.ex∨X.s₀.heap.objs.size<=b)/\b≠X.env.locals/\(∀x c,X.env.cells.lookup x=some c->c≠b)/\∀p∈X.pn++aa,p.1≠b):
  Inv X aa σ H' { s with heap:=h',gens:=g',drawn:=d',toks:=t' }:=by
 obtain⟨m,⟨o,es,ep,ho,r⟩,_⟩:=id I.loc;obtain⟨sl,hL⟩:=u.any ho I.free λz=>(wn _ z).2.1 rfl;exact I.step (ch:=ch) wn (λb o hL hb hc e n=>u.keep b o e n (λz=>(vP (I.stkSub b z)).elim hL hb) hc) (λb o _ _ hc e n=>u.any e n hc) (λb o hc e n=>u.free b o e n hc) (λb o hc e=>u.there b o e hc) u.tups u.frzs u.tbls (λm' hm=>by
  obtain⟨o',AT,KO,uu,r'⟩:=hm;rw[ho]at uu;cases uu;exact⟨_,AT,KO,hL,r'⟩) hok hg
theorem Inv.turned {t':Nat}{it:Addr}(I:Inv X aa σ H s)(k:∀b o,b≠it->s.heap.get? b=some o->h'.get? b=some o)(hn:H it=none)(hL:it≠X.env.locals)
  (h1:it∈X.ex∨X.s₀.heap.objs.size<=it) (h2:∀x c,X.env.cells.lookup x=some c->c≠it) (h3:∀p∈X.pn++aa,p.1≠it):Inv X aa σ H { s with heap:=h',toks:=t' }:=by
 have DI:∀b u,H b=some u->b≠it:=λb u e z=>by rw[z,hn]at e;cases e
 refine I.step (g':=s.gens) (d':=s.drawn) (ch:=[it]) (λb hb=>?_) (λb o _ _ hc e _=>k b o (λz=>hc (by simp[z])) e) (λb o _ _ hc e _=>⟨o.slots,k b o (λz=>hc (by simp[z])) e⟩) (λ_ _ _ _ n=>n)
  (λb o hc e=>⟨o,k b o (λz=>hc (by simp[z])) e⟩) (λ_ _ e=>e) (λ_ _ _ e=>e) (λ_ _ e=>e) (λm hm=>?_) (λb u e=>?_) I.bare
 ·have e:b=it:=by simpa using hb
  subst e;exact⟨h1,hL,h2,h3⟩
 ·obtain⟨o,es,ep,ho,r⟩:=hm;exact⟨o,es,ep,k _ o (Ne.symm hL) ho,r⟩
 ·refine(I.hok b u e).stay (λc v hc q=>k c v ?_ q) (λ_ q=>q) (λ_ _ q=>q) λ_ _ _ q=>q;rcases hc with z|z
  ·rw[z];exact DI b u e
  ·exact DI c _ z
theorem Inv.tok (I:Inv X aa σ H s)(t:Nat):Inv X aa σ H { s with toks:=t }:=I.un (h':=s.heap) (t':=t) Un.refl I.hok
theorem Inv.kept (I:Inv X aa σ H s)(k:∀b u,s.heap.get? b=some u->h'.get? b=some u):Inv X aa σ H { s with heap:=h',toks:=t' }:=I.un (Un.kept k) (I.hok.kept k)
theorem Inv.laid (I:Inv X aa σ H s)(k:∀b u,s.heap.get? b=some u->h'.get? b=some u)(hp:s.heap.objs.size<=a)(new:br X.prog X.w (upd H a o) h' a o):
  Inv X aa σ (upd H a o) { s with heap:=h',toks:=t' }:=I.un (Un.laid k hp (I.hok.fresh hp)) (I.hok.laid k hp new)
theorem Inv.write (I:Inv X aa σ H s)(mu:G4 (H x))(he:e=x∨H e=some (.own x))(k:∀b u,b≠e->s.heap.get? b=some u->h'.get? b=some u)(Gv:∃u,h'.get? e=some u)
  (new:br X.prog X.w (upd H x o) h' x o):Inv X aa σ (upd H x o) { s with heap:=h',toks:=t' }:=I.un (Un.write mu he k Gv) (I.hok.write mu he k Gv new)
theorem Inv.pins_of (I:Inv X aa σ H s)(h:∀p∈pins',s.heap.get? p.1=some p.2/\H p.1=none/\p.1≠X.env.locals/\p.1∉X.fs/\∀v,p.2.data≠.cell v):Inv X pins' σ H s :=
 ⟨I.ok,I.os,I.bare,I.base,I.loc,I.cell,I.free,I.freeC,λp hp=>(List.mem_append.mp hp).elim (λz=>I.pin p (List.mem_append_left _ z)) (h p),I.hok,I.len⟩
theorem q8 {N:List Str}(hN:N.Nodup){i j:Nat}{x:Str}(a:N[i]? = some x)(b:N[j]? = some x):i=j:=by
 obtain⟨h1,e1⟩:=vV a;obtain⟨h2,e2⟩:=vV b;exact(List.getElem_inj hN).mp (e1.trans e2.symm)
theorem nJ {M:Model}{A:Around}{E:Value->Shared->Prop}{i:Nat}{x:Str}{v:V}{u:Value}{Q:Unit->Shared->Prop}(I:Inv X aa σ H s)(hN:X.N.Nodup)(hi:X.N[i]? = some x)(hx:De X.env.scope x)(r:aK v u)
  (h:∀s',Inv X aa (σ.set i (some v)) H s'->(∃a,Heap.SameBut a s.heap s'.heap/\(a=X.env.locals∨X.env.cells.lookup x=some a))->Q () s') (hf:X.fn x=true∨X.env.scope.names.lookup x=some .local:=by first|exact .inl rfl|exact .inr rfl|assumption):wpAny M A (storeName X.env x u) Q E s:=by
 obtain⟨m,hn,hl⟩:=id I.loc;have KP:(X.env.scope.kind == .class || (X.env.scope.kind == .module && X.env.locals != X.env.globals))=false:=by rw[I.ok.kind];rfl
 have xX:i<σ.length:=by rw[I.len];exact(vV hi).1
 have cne:=I.cne;have wt:∀ {a:Addr}{h':Heap},(∃o,s.heap.get? a=some o/\H a=none)->Heap.SameBut a s.heap h'->j4 X.prog X.w H h':=λ{a h'} ha hs b ob e=>by
  obtain⟨_,_,DJ⟩:=ha;refine(I.hok b ob e).stay (λc w' hc q=>(hs.2 c ?_).trans q) (λ_ q=>q) (λ_ _ q=>q) λ_ _ _ q=>q;rintro rfl;rcases hc with rfl|hc
  ·rw[DJ]at e;cases e
  ·rw[DJ]at hc;cases hc
 rcases hx with hk|hk
 ·refine wpAny_storeName_local hk hn (λh' Ox hs=>?_) KP;obtain⟨oL,_,_,Iw,_⟩:=id hn;refine h _ ⟨I.ok,I.os,I.bare,⟨λb o e n hb hx=>?_,λb o e n hb hx=>?_,I.base.free,λb o e hx=>?_,I.base.tups,I.base.frzs,I.base.tbls⟩,⟨_,Ox,λj y v' e1 e2 e3=>?_⟩,λy c e=>?_,I.free,I.freeC,λp hp=>?_,wt ⟨oL,Iw,I.free⟩ hs,by simpa using I.len⟩ ⟨_,hs,.inl rfl⟩
  ·exact(hs.2 b (vS (vQ (vX e) I.ok.above))).trans (I.base.keep b o e n hb hx)
  ·obtain⟨sl,e1⟩:=I.base.slot b o e n hb hx;exact⟨sl,(hs.2 b (vS (vQ (vX e) I.ok.above))).trans e1⟩
  ·obtain⟨o',e1⟩:=I.base.there b o e hx;exact⟨o',(hs.2 b (vS (vQ (vX e) I.ok.above))).trans e1⟩
  ·by_cases hj:j=i
   ·subst hj;rw[hi]at e1;cases e1;rw[List.getElem?_set_self xX]at e2;cases e2
    exact⟨u,r,.inl ⟨hk,by simp⟩⟩
   ·rw[vC (Ne.symm hj)]at e2;obtain⟨u',r',q⟩:=hl j y v' e1 e2 e3;refine⟨u',r',?_⟩;rcases q with⟨k,e⟩|⟨k,c,e,z⟩
    ·refine .inl ⟨k,?_⟩;have:y≠x:=λe=>hj (q8 hN e1 (e ▸ hi));simp[this,e]
    ·exact .inr ⟨k,c,e,z.sameBut hs (cne y c e)⟩
  ·obtain⟨w',z⟩:=I.cell y c e;exact⟨w',z.sameBut hs (cne y c e)⟩
  ·obtain⟨e,n,ne,nf,d⟩:=I.pin p hp;exact⟨(hs.2 p.1 ne).trans e,n,ne,nf,d⟩
 ·have KQ:X.fn x=true:=by
   rcases hf with z|z
   ·exact z
   ·rw[z]at hk;cases hk
  obtain⟨c,hc⟩:=I.ok.has x (.inl hk);obtain⟨w',z⟩:=I.cell x c hc;refine wpAny_storeName_cell I.ok.kind hk hc z (λh' Gx hs=>?_);obtain⟨oc,M0,KR⟩:=id z;refine h { s with heap:=h' } ⟨I.ok,I.os,I.bare,⟨λb o e n hb hx=>?_,λb o e n hb hx=>?_,I.base.free,λb o e hx=>?_,I.base.tups,I.base.frzs,I.base.tbls⟩,⟨m,hn.sameBut hs (Ne.symm (cne x c hc)),λj y v' e1 e2 e3=>?_⟩,λy c' e=>?_,I.free,I.freeC,λp hp=>?_,wt ⟨oc,M0,I.freeC x c hc⟩ hs,by simpa using I.len⟩ ⟨c,hs,.inr hc⟩
  ·exact(hs.2 b (vS (vQ (vX e) (I.ok.cab x c KQ hc)))).trans (I.base.keep b o e n hb hx)
  ·obtain⟨sl,e1⟩:=I.base.slot b o e n hb hx;exact⟨sl,(hs.2 b (vS (vQ (vX e) (I.ok.cab x c KQ hc)))).trans e1⟩
  ·obtain⟨o',e1⟩:=I.base.there b o e hx;exact⟨o',(hs.2 b (vS (vQ (vX e) (I.ok.cab x c KQ hc)))).trans e1⟩
  ·by_cases hj:j=i
   ·subst hj;rw[hi]at e1;cases e1;rw[List.getElem?_set_self xX]at e2;cases e2
    exact⟨u,r,.inr ⟨.inl hk,c,hc,Gx⟩⟩
   ·rw[vC (Ne.symm hj)]at e2;obtain⟨u',r',q⟩:=hl j y v' e1 e2 e3;refine⟨u',r',?_⟩;rcases q with q|⟨k,c',e,z'⟩
    ·exact .inl q
    ·refine .inr ⟨k,c',e,z'.sameBut hs ?_⟩;rintro rfl;exact hj (q8 hN e1 (I.ok.inj _ _ _ e hc ▸ hi))
  ·by_cases hcc:c'=c
   ·subst hcc;exact⟨_,Gx⟩
   ·obtain⟨w2,z2⟩:=I.cell y c' e;exact⟨w2,z2.sameBut hs hcc⟩
  ·obtain⟨e,n,ne,nf,d⟩:=I.pin p hp;refine⟨(hs.2 p.1 ?_).trans e,n,ne,nf,d⟩;intro q;rw[q,M0]at e;have q':oc=p.2:=vK e;exact d w' (by rw[←q'];exact KR)
theorem q9 {M:Model}{A:Around}{E:Value->Shared->Prop}{i:Nat}{x:Str}{v:V}{u:Value}{Q:Unit->Shared->Prop}(I:Inv X aa σ H s)(hN:X.N.Nodup)(hi:X.N[i]? = some x)(hx:De X.env.scope x)(r:aK v u)
  (h:∀s',Inv X aa (σ.set i (some v)) H s'->Q () s') (hf:X.fn x=true∨X.env.scope.names.lookup x=some .local:=by first|exact .inl rfl|exact .inr rfl|assumption):wpAny M A (storeName X.env x u) Q E s :=
 nJ I hN hi hx r (λs' I' _=>h s' I') hf
theorem Inv.call' (I:Inv X aa σ H s)(ho:s'.os=s.os)(u:Un (yj X.stack) ch H H' s.heap s'.heap)(hok:j4 X.prog X.w H' s'.heap)(hg:AllBare s'.gens)
  (wn:∀b∈ch,(b∈X.ex∨X.s₀.heap.objs.size<=b)/\b≠X.env.locals/\(∀x c,X.env.cells.lookup x=some c->c≠b)/\∀p∈X.pn++aa,p.1≠b):Inv X aa σ H' s':=by
 obtain⟨h',g',d',t',o'⟩:=s';have e:o'=s.os:=ho;subst e;exact I.call (g':=g') (t':=t') (d':=d') u hok hg wn
end
abbrev XK:=Value->Option Addr->Hp->Prop
abbrev St:=List (Option V)
abbrev VK:=V->Hp->Prop
abbrev TE:=St->Hp->VK->Prop
abbrev TT:=St->Hp->(Bool->Hp->Prop)->Prop
abbrev TA:=St->Hp->(List V->Hp->Prop)->Prop
structure Ends where
 nx:St->Hp->Prop
 rt:VK
 bk:St->Hp->Prop:=λ_ _=>False
 ct:St->Hp->Prop:=λ_ _=>False
abbrev TS:=Ends->St->Hp->Prop
def EP (X:Cx)(aa:List (Addr×Obj))(σ:St)(Q:VK)(u:Value)(s':Shared):Prop:=∃v H',Inv X aa σ H' s'/\aK v u/\Q v H'
def TP (X:Cx)(aa:List (Addr×Obj))(σ:St)(Q:Bool->Hp->Prop)(b:Bool)(s':Shared):Prop:=∃H',Inv X aa σ H' s'/\Q b H'
def AP (X:Cx)(aa:List (Addr×Obj))(σ:St)(Q:List V->Hp->Prop)(us:List Value)(s':Shared):Prop:=∃vs H',Inv X aa σ H' s'/\aP vs us/\Q vs H'
def SP (X:Cx)(aa:List (Addr×Obj))(D:Ends)(f:Flow)(s':Shared):Prop :=
 match f with
 |.next=>∃σ' H',Inv X aa σ' H' s'/\D.nx σ' H'
 |.brk=>∃σ' H',Inv X aa σ' H' s'/\D.bk σ' H'
 |.cont=>∃σ' H',Inv X aa σ' H' s'/\D.ct σ' H'
 |.ret u=>∃v σ' H',Inv X aa σ' H' s'/\aK v u/\D.rt v H'
def PE (X:Cx)(e:Expr)(t:TE):Prop :=
 ∀(aa:List (Addr×Obj))(s:Shared)(σ:St)(H:Hp)(Q:VK),Inv X aa σ H s->t σ H Q->wq X (eval e X.env) (EP X aa σ Q) X.xe s
def PT (X:Cx)(e:Expr)(t:TT):Prop :=
 ∀(aa:List (Addr×Obj))(s:Shared)(σ:St)(H:Hp)(Q:Bool->Hp->Prop),Inv X aa σ H s->t σ H Q->wq X (isTrue e X.env (eval e X.env)) (TP X aa σ Q) X.xe s
def PW (X:Cx)(e:Expr)(t:TT):Prop :=
 ∀(mP:Sem Value)(aa:List (Addr×Obj))(s:Shared)(σ:St)(H:Hp)(Q:Bool->Hp->Prop),Inv X aa σ H s->t σ H Q->wq X (isTrue e X.env mP) (TP X aa σ Q) X.xe s
theorem PW.pt (h:PW X e t):PT X e t:=h _
def PA (X:Cx)(es:List Expr)(t:TA):Prop :=
 ∀(pos:Pos)(aa:List (Addr×Obj))(s:Shared)(σ:St)(H:Hp)(Q:List V->Hp->Prop),Inv X aa σ H s->t σ H Q->wq X (spliced (backTo pos (starEach es X.env))) (AP X aa σ Q) X.xe s
def PS (X:Cx)(st:Stmt)(t:TS):Prop :=
 ∀(aa:List (Addr×Obj))(s:Shared)(σ:St)(H:Hp)(D:Ends),Inv X aa σ H s->t D σ H->wq X (exec st X.env) (SP X aa D) X.xe s
def pv (X:Cx)(st:List Stmt)(t:TS):Prop :=
 ∀(aa:List (Addr×Obj))(s:Shared)(σ:St)(H:Hp)(D:Ends),Inv X aa σ H s->t D σ H->wq X (execs st X.env) (SP X aa D) X.xe s
theorem bJ {α:Type}{t:Sem α}{Q Q':α->Shared->Prop}{M:Model}{A:Around}{E:Value->Shared->Prop}{s:Shared}(h:wpAny M A t Q E s)(hQ:∀a s,Q a s->Q' a s):wpAny M A t Q' E s:=wpAny_mono h hQ λ_ _ x=>x
section
variable {X:Cx}
theorem Qo {a b:Expr}{ta tb:TE}(ha:PE X a ta)(hb:PE X b tb){aa:List (Addr×Obj)}{s:Shared}{σ:St}{H:Hp}{R:V->V->Hp->Prop}(I:Inv X aa σ H s)(h:ta σ H λx H1=>tb σ H1 λy H2=>R x y H2)
  {α:Type}{Q:α->Shared->Prop}{f:Value->Value->Sem α}
  (hf:∀v u s2 x y H2,Inv X aa σ H2 s2->aK x v->aK y u->R x y H2->wq X (f v u) Q X.xe s2):
  wq X (eval a X.env) (λv s₁=>wq X (eval b X.env) (λu s₂=>wq X (f v u) Q X.xe s₂) X.xe s₁) X.xe s:=by
 refine bJ (ha aa s σ H _ I h) λv s1 ⟨x,H1,I1,r1,q1⟩=>?_;refine bJ (hb aa s1 σ H1 _ I1 q1) λu s2 ⟨y,H2,I2,r2,q2⟩=>?_;exact hf v u s2 x y H2 I2 r1 r2 q2
def G5 (i:Nat):TE:=λσ H Q=>∃v,σ[i]? = some (some v)/\Q v H
def tC (v:V):TE:=λ_ H Q=>Q v H
theorem lF (hN:X.N[i]? = some x)(hv:Bd X.env.scope x)(hd:(x == ("__debug__" : Str))=false:=by decide)(lB:(x == ("__classdict__" : Str))=false:=by decide):PE X (.Name x pos) (G5 i):=by
 intro aa s σ H Q I h;obtain⟨v,e,h⟩:=h;obtain⟨m,hn,hl⟩:=I.loc;obtain⟨u,r,l⟩:=hl i x v hN e hv;have hW:EP X aa σ Q u s:=⟨v,H,I,r,h⟩;rcases l with⟨hk,hm⟩|⟨hk,c,hc,DK⟩
 ·exact wpAny_Name (wpAny_loadName_local I.ok.kind hk hn hm hW) hd
 ·rcases hk with hk|hk
  ·exact wpAny_Name (wpAny_loadName_cell I.ok.kind hk hc DK hW) hd
  ·exact wpAny_Name (wpAny_loadName_free I.ok.kind hk hc DK hW lB) hd
theorem DY {i j pos}:PE X (.Constant (.int i) j pos) (tC (.int i)):=λ_ _ _ H _ I h=>wpAny_Constant_int ⟨.int i,H,I.tok _,⟨_,rfl⟩,h⟩
theorem G6 {b j pos}:PE X (.Constant (.bool b) j pos) (tC (.bl b)):=λ_ _ _ H _ I h=>Constant_bool ⟨.bl b,H,I,rfl,h⟩
theorem DZ {j pos}:PE X (.Constant .none j pos) (tC .non):=λ_ _ _ H _ I h=>Constant_none ⟨.non,H,I,rfl,h⟩
theorem Ea {x j pos}:PE X (.Constant (.str x) j pos) (tC (.str x)):=λ_ _ _ H _ I h=>Calls.Constant_str ⟨.str x,H,I.tok _,⟨_,rfl⟩,h⟩
def Gl (X:Cx)(x:Str):Prop:=X.env.kindOf x=some .globalImplicit
theorem ux {E:Value->Shared->Prop}{aa:List (Addr×Obj)}{s:Shared}{σ:St}{H:Hp}{x:Str}{u:Value}{pos:Pos}{Q:Value->Shared->Prop}(I:Inv X aa σ H s)(hg:Gl X x)(hm:X.mg x=some u)(h:Q u s)
  (hd:(x == ("__debug__" : Str))=false:=by decide):wq X (eval (.Name x pos) X.env) Q E s :=
 Calls.Name_function_global I.ok.kind hg (Calls.loadGlobal_global (by rw[I.ok.glob];exact I.mod.glob.keeps I.bk) hm h) hd
theorem fT {E:Value->Shared->Prop}{aa:List (Addr×Obj)}{s:Shared}{σ:St}{H:Hp}{x:Str}{u:Value}{pos:Pos}{Q:Value->Shared->Prop}(I:Inv X aa σ H s)(hg:Gl X x)(hm:X.mg x=none)(hv:bootBuiltins x=some u)(h:Q u s)
  (hn:x ≠ "__name__":=by decide) (hd:(x == ("__debug__" : Str))=false:=by decide):wq X (eval (.Name x pos) X.env) Q E s:=by
 obtain⟨mb,h1,h2⟩:=I.mod.blt;exact Calls.Name_function_global I.ok.kind hg (Calls.loadGlobal_builtin (by rw[I.ok.glob];exact I.mod.glob.keeps I.bk) hm (by rw[I.ok.blt];exact h1.keeps I.bk) ((h2 x hn).trans hv) h) hd
theorem ls (hg:Gl X x)(hm:X.mg x=some u)(r:aK v u)(hd:(x == ("__debug__" : Str))=false:=by decide):PE X (.Name x pos) (tC v) :=
 λ_ _ _ H _ I h=>ux I hg hm ⟨v,H,I,r,h⟩ hd
theorem Be (hg:Gl X x)(hm:X.mg x=none)(hv:bootBuiltins x=some u)(r:aK v u)(hn:x ≠ "__name__":=by decide)(hd:(x == ("__debug__" : Str))=false:=by decide):PE X (.Name x pos) (tC v) :=
 λ_ _ _ H _ I h=>fT I hg hm hv ⟨v,H,I,r,h⟩ hn hd
variable {a b:Expr}{ta tb:TE}{pos:Pos}
def PC (X:Cx)(op:CmpOp)(a b:Expr)(t:TE):Prop :=
 ∀(aa:List (Addr×Obj))(s:Shared)(σ:St)(H:Hp)(Q:VK),Inv X aa σ H s->t σ H Q ->
  wq X (eval a X.env) (λv s₁=>wq X (eval b X.env) (λu s₂=>wq X (compareOp op v u) (EP X aa σ Q) X.xe s₂) X.xe s₁) X.xe s
theorem lG (b:Expr){op:CmpOp}(h:op≠.In)(h2:op≠.NotIn):behindInMarks op b=false:=by
 have e1:(op == CmpOp.In)=false:=by cases op<;>first|rfl|exact absurd rfl h
 have e2:(op == CmpOp.NotIn)=false:=by cases op<;>first|rfl|exact absurd rfl h2
 cases b<;>simp[behindInMarks,e1,e2]
def tB (t:TE):TT:=λσ H Q=>t σ H λx H1=>∃c,x=.bl c/\Q c H1
theorem JZ {op:CmpOp}{t:TE}(h:PC X op a b t)(h1:behindInMarks op b=false:=by first|exact lG _ (by decide) (by decide)|rfl):PT X (.Compare a [op] [b] pos) (tB t):=by
 intro aa s σ H Q I hw;refine wpAny_isTrue_Compare1 (bJ (h aa s σ H _ I hw) λv s1 h1=>bJ h1 λu s2 h2=>bJ h2 λc s3 ⟨x,H1,I1,r1,q1⟩=>?_) h1;obtain⟨d,rfl,q⟩:=q1;cases r1
 exact wpAny_truthy_bool ⟨H1,I1,q⟩
theorem Eb {e:Expr}{t:TE}(h:PE X e t)(he:∀mP,isTrue e X.env mP=(do let v ←mP;standAt e.pos;holding [v] (truthy v)):=by intro _;rfl):PT X e (tB t):=by
 intro aa s σ H Q I hw;refine isTrue_plain (bJ (h aa s σ H _ I hw) λv s1 ⟨x,H1,I1,r1,q1⟩=>?_) (he _);obtain⟨d,rfl,q⟩:=q1;cases r1
 exact wpAny_truthy_bool ⟨H1,I1,q⟩
variable {tA J0:TT}{rest:List Expr}
def G7 (t u:TT):TT:=λσ H Q=>t σ H λc H1=>if c=true then u σ H1 Q else Q false H1
def Mb (t u:TT):TT:=λσ H Q=>t σ H λc H1=>if c=true then Q true H1 else u σ H1 Q
def G8 (t:TT):TT:=λσ H Q=>t σ H λc H1=>Q (!c) H1
theorem Bf (ha:PT X a tA):PW X (.BoolOp .And [a] pos) tA:=by
 intro wh aa s σ H Q I h;refine isTrue_and (bJ (ha aa s σ H Q I h) λc s1 e=>?_);cases c with
 |true=>exact isTrue_and_nil e
 |false=>exact e
theorem Ec (ha:PT X a tA):PW X (.BoolOp .Or [a] pos) tA:=by
 intro wh aa s σ H Q I h;refine isTrue_or (bJ (ha aa s σ H Q I h) λc s1 e=>?_);cases c with
 |false=>exact isTrue_or_nil e
 |true=>exact e
theorem Ed (ha:PT X a tA)(hb:PW X (.BoolOp .And (b::rest) pos) J0):PW X (.BoolOp .And (a::b::rest) pos) (G7 tA J0):=by
 intro wh aa s σ H Q I h;refine isTrue_and (bJ (ha aa s σ H _ I h) λc s1 ⟨H1,I1,q1⟩=>?_);cases c with
 |true=>exact hb wh aa s1 σ H1 Q I1 q1
 |false=>exact⟨H1,I1,q1⟩
theorem G9 (ha:PT X a tA)(hb:PW X (.BoolOp .Or (b::rest) pos) J0):PW X (.BoolOp .Or (a::b::rest) pos) (Mb tA J0):=by
 intro wh aa s σ H Q I h;refine isTrue_or (bJ (ha aa s σ H _ I h) λc s1 ⟨H1,I1,q1⟩=>?_);cases c with
 |true=>exact⟨H1,I1,q1⟩
 |false=>exact hb wh aa s1 σ H1 Q I1 q1
theorem Ee (ha:PT X a tA):PT X (.UnaryOp .Not a pos) (G8 tA):=by
 intro aa s σ H Q I h;exact isTrue_not (ha aa s σ H (λc H1=>Q (!c) H1) I h)
def GA (ta tb:TE):TE:=λσ H Q=>ta σ H λx H1=>∃c,x=.bl c/\if c=true then tb σ H1 Q else Q (.bl false) H1
def Ka (ta tb:TE):TE:=λσ H Q=>ta σ H λx H1=>∃c,x=.bl c/\if c=true then Q (.bl true) H1 else tb σ H1 Q
def GB (ta:TE):TE:=λσ H Q=>ta σ H λx H1=>∃c,x=.bl c/\Q (.bl (!c)) H1
theorem Ef {op}(h:PE X a t):PE X (.BoolOp op [a] pos) t:=λaa s σ H Q I hw=>BoolOp_one (h aa s σ H Q I hw)
theorem Eg (ha:PE X a ta)(hb:PE X (.BoolOp .And (b::rest) pos) tb):PE X (.BoolOp .And (a::b::rest) pos) (GA ta tb):=by
 intro aa s σ H Q I h;refine BoolOp_and (bJ (ha aa s σ H _ I h) λv s1 ⟨x,H1,I1,r1,q1⟩=>?_);obtain⟨c,rfl,q1⟩:=q1;cases r1
 refine wpAny_truthy_bool ?_;cases c with
 |true=>exact hb aa s1 σ H1 Q I1 q1
 |false=>exact⟨.bl false,H1,I1,rfl,q1⟩
theorem GC (ha:PE X a ta)(hb:PE X (.BoolOp .Or (b::rest) pos) tb):PE X (.BoolOp .Or (a::b::rest) pos) (Ka ta tb):=by
 intro aa s σ H Q I h;refine BoolOp_or (bJ (ha aa s σ H _ I h) λv s1 ⟨x,H1,I1,r1,q1⟩=>?_);obtain⟨c,rfl,q1⟩:=q1;cases r1
 refine wpAny_truthy_bool ?_;cases c with
 |false=>exact hb aa s1 σ H1 Q I1 q1
 |true=>exact⟨.bl true,H1,I1,rfl,q1⟩
theorem Eh (ha:PE X a ta):PE X (.UnaryOp .Not a pos) (GB ta):=by
 intro aa s σ H Q I h;refine UnaryOp_ (bJ (ha aa s σ H _ I h) λv s1 ⟨x,H1,I1,r1,q1⟩=>?_);obtain⟨c,rfl,q1⟩:=q1;cases r1
 exact not_of (wpAny_truthy_bool ⟨.bl (!c),H1,I1,rfl,q1⟩)
def NE (t:TT)(ta tb:TE):TE:=λσ H Q=>t σ H λc H1=>if c=true then ta σ H1 Q else tb σ H1 Q
theorem yr {c:Expr}(hc:PT X c tA)(ha:PE X a ta)(hb:PE X b tb):PE X (.IfExp c a b pos) (NE tA ta tb):=by
 intro aa s σ H Q I h;refine wpAny_IfExp (bJ (hc aa s σ H _ I h) λd s1 ⟨H1,I1,q1⟩=>?_);cases d with
 |true=>exact ha aa s1 σ H1 Q I1 q1
 |false=>exact hb aa s1 σ H1 Q I1 q1
end
def fU (K:Frag)(H:Hp)(a:Addr)(xs:List V):Prop :=
 Rd H a (.lst xs) ∨
  ∃(o:Obj)(its:Array Value)(n:Nat),K.lookup a=some o/\o.cls=.type "list"/\o.dict=none/\o.data=.seq its n/\its.size<=sizeLine/\aP xs its.toList
def gh (K:Frag)(H:Hp)(a:Addr)(xs:List V):Prop :=
 Rd H a (.tup xs) ∨
  ∃(o:Obj)(its:Array Value)(n:Nat),K.lookup a=some o/\o.cls=.type "tuple"/\o.data=.seq its n/\its.size<=sizeLine/\aP xs its.toList
noncomputable def Kb:Value->Option V
 |.none=>some .non
 |.bool b=>some (.bl b)
 |.int i _=>some (.int i)
 |.str x _=>some (.str x)
 |.bytes b _=>some (.byt b)
 |.float b _=>some (.flt b)
 |.ref a=>some (.ref a)
 |.type n=>some (.ty n)
 |_=>none
theorem aK.abs (r:aK x u):Kb u=some x:=by
 cases x with
 |non=>cases r;rfl
 |bl _=>cases r;rfl
 |int _=>obtain⟨t,rfl⟩:=r;rfl
 |str _=>obtain⟨t,rfl⟩:=r;rfl
 |byt _=>obtain⟨t,rfl⟩:=r;rfl
 |flt _=>obtain⟨t,rfl⟩:=r;rfl
 |ref _=>cases r;rfl
 |ty _=>cases r;rfl
theorem aK.inj (r:aK x u)(q:aK y u):x=y:=vK (r.abs.symm.trans q.abs)
theorem aP.inj:∀ {xs ys:List V}{us:List Value},aP xs us->aP ys us->xs=ys
 |_,_,_,.nil,.nil=>rfl
 |_,_,_,.cons r t,.cons r' t'=>by rw[r.inj r',aP.inj t t']
section
variable {X:Cx}{aa:List (Addr×Obj)}{σ:St}{H:Hp}{s:Shared}{a:Addr}{xs ys:List V}
theorem fU.of {K:Frag}(h:H a=some (.lst xs)):fU K H a xs:=.inl (.inl h)
theorem gh.of {K:Frag}(h:H a=some (.tup xs)):gh K H a xs:=.inl (.inl h)
theorem Inv.list (I:Inv X aa σ H s)(h:fU X.K H a xs):∃its:List Value,aP xs its/\PlainL s.heap a its.toArray/\xs.length<=sizeLine:=by
 rcases h with h|⟨o,its,n,hk,hc,hd,hs,hz,r⟩
 ·obtain⟨z,its,n,r,e⟩:=h.ok I.hok;exact⟨its,r,⟨_,n,e,rfl,rfl,rfl⟩,z⟩
 ·refine⟨its.toList,r,⟨o,n,I.kIn a o hk,hc,hd,by simpa using hs⟩,?_⟩;have e:=r.length;simp only[vG]at e;omega
theorem Inv.tuple (I:Inv X aa σ H s)(h:gh X.K H a xs):∃its:List Value,aP xs its/\IsTup s.heap a its.toArray/\xs.length<=sizeLine:=by
 rcases h with h|⟨o,its,n,hk,hc,hs,hz,r⟩
 ·obtain⟨z,its,r,p⟩:=h.ok I.hok;exact⟨its,r,p,z⟩
 ·refine⟨its.toList,r,⟨o,I.kIn a o hk,hc,n,by simpa using hs⟩,?_⟩;have e:=r.length;simp only[vG]at e;omega
theorem Inv.list_inj (I:Inv X aa σ H s)(h:fU X.K H a xs)(h':fU X.K H a ys):xs=ys:=by
 obtain⟨its,r,⟨o,n,e,_,_,d⟩,_⟩:=I.list h;obtain⟨its',r',⟨o',n',e',_,_,d'⟩,_⟩:=I.list h';rw[e]at e';cases e';rw[d]at d';injection d' with d1 _;have:its=its':=by simpa using congrArg Array.toList d1
 subst this;exact r.inj r'
theorem Inv.tuple_inj (I:Inv X aa σ H s)(h:gh X.K H a xs)(h':gh X.K H a ys):xs=ys:=by
 obtain⟨its,r,⟨o,e,_,n,d⟩,_⟩:=I.tuple h;obtain⟨its',r',⟨o',e',_,n',d'⟩,_⟩:=I.tuple h';rw[e]at e';cases e';rw[d]at d';injection d' with d1 _;have:its=its':=by simpa using congrArg Array.toList d1
 subst this;exact r.inj r'
end
noncomputable abbrev Cx.wish (X:Cx)(E:Value->Shared->Prop):Cx:={ X with xe:=E }
noncomputable abbrev Cx.nox (X:Cx):Cx:=X.wish λ_ _=>False
theorem Cx.Ok.wish {X:Cx}(ok:X.Ok)(E:Value->Shared->Prop):(X.wish E).Ok :=
 ⟨ok.mod,ok.kind,ok.glob,ok.blt,ok.above,ok.inj,ok.has,ok.cab,ok.hd,ok.frames,ok.stk,ok.exf,ok.bs,ok.bsz,ok.noex,ok.exfs,ok.funs,ok.frf⟩
theorem Cx.Ok.unwish {X:Cx}{E:Value->Shared->Prop}(ok:(X.wish E).Ok):X.Ok :=
 ⟨ok.mod,ok.kind,ok.glob,ok.blt,ok.above,ok.inj,ok.has,ok.cab,ok.hd,ok.frames,ok.stk,ok.exf,ok.bs,ok.bsz,ok.noex,ok.exfs,ok.funs,ok.frf⟩
section
variable {X:Cx}{aa:List (Addr×Obj)}{σ:St}{H:Hp}{s:Shared}{E:Value->Shared->Prop}
theorem Inv.wish (I:Inv X aa σ H s)(E:Value->Shared->Prop):Inv (X.wish E) aa σ H s:=⟨I.ok.wish E,I.os,I.bare,I.base,I.loc,I.cell,I.free,I.freeC,I.pin,I.hok,I.len⟩
theorem Inv.unwish (I:Inv (X.wish E) aa σ H s):Inv X aa σ H s:=⟨I.ok.unwish,I.os,I.bare,I.base,I.loc,I.cell,I.free,I.freeC,I.pin,I.hok,I.len⟩
theorem SP.unwish (h:SP (X.wish E) aa D f s'):SP X aa D f s':=by
 cases f with
 |next=>obtain⟨σ',H',I,q⟩:=h;exact⟨σ',H',I.unwish,q⟩
 |brk=>obtain⟨σ',H',I,q⟩:=h;exact⟨σ',H',I.unwish,q⟩
 |cont=>obtain⟨σ',H',I,q⟩:=h;exact⟨σ',H',I.unwish,q⟩
 |ret u=>obtain⟨v,σ',H',I,r,q⟩:=h;exact⟨v,σ',H',I.unwish,r,q⟩
theorem PE.nox (h:PE X.nox e t):PE X e t:=λaa s σ H Q I hw=>
 wpAny_mono (h aa s σ H Q (I.wish _) hw) (λ_ _ ⟨v,H',I',r,q⟩=>⟨v,H',I'.unwish,r,q⟩) λ_ _ z=>False.elim z
theorem PT.nox (h:PT X.nox e t):PT X e t:=λaa s σ H Q I hw=>
 wpAny_mono (h aa s σ H Q (I.wish _) hw) (λ_ _ ⟨H',I',q⟩=>⟨H',I'.unwish,q⟩) λ_ _ z=>False.elim z
theorem pv.nox {st:List Stmt}{t:TS}(h:pv X.nox st t):pv X st t:=λaa s σ H D I hw=>
 wpAny_mono (h aa s σ H D (I.wish _) hw) (λ_ _ q=>q.unwish) λ_ _ z=>False.elim z
end
section
variable {X:Cx}{st:Stmt}{rest:List Stmt}{t u:TS}{e:Expr}{te:TE}{pos:Pos}
def Df:TS:=λD σ H=>D.nx σ H
def GD (t u:TS):TS:=λD σ H=>t { D with nx:=u D } σ H
theorem Bg:pv X [] Df:=λ_ _ σ H _ I h=>wpAny_execs_nil ⟨σ,H,I,h⟩
theorem yt (h1:PS X st t)(h2:pv X rest u):pv X (st::rest) (GD t u):=by
 intro aa s σ H D I h;refine wpAny_execs_cons (bJ (h1 aa s σ H { D with nx:=u D } I h) λf s1 q=>?_);cases f with
 |next=>
  obtain⟨σ',H',I',q⟩:=q;exact h2 aa s1 σ' H' D I' q
 |ret v=>exact q
 |brk=>exact q
 |cont=>exact q
theorem Bh (h1:PS X st t):pv X [st] t:=by
 intro aa s σ H D I h;refine wpAny_execs_cons (bJ (h1 aa s σ H D I h) λf s1 q=>?_);cases f with
 |next=>exact wpAny_execs_nil q
 |ret v=>exact q
 |brk=>exact q
 |cont=>exact q
theorem Inv.quiet (I:Inv X aa σ H s):interactive X.env=false:=by simp[interactive,I.ok.kind]
def GF (te:TE):TS:=λD σ H=>te σ H λ_ H1=>D.nx σ H1
theorem uy (he:PE X e te)(hs:swapsWith e none pos.line X.env=pure false:=by rfl):PS X (.Expr e pos) (GF te):=by
 intro aa s σ H D I h;exact wpAny_Expr_any (bJ (he aa s σ H _ I h) λv s1 ⟨x,H1,I1,r1,q1⟩=>⟨σ,H1,I1,q1⟩) I.quiet hs
def Ei (te:TE):TS:=λD σ H=>te σ H D.rt
theorem yu (he:PE X e te):PS X (.Return (some e) pos) (Ei te):=by
 intro aa s σ H D I h;exact wpAny_Return_some (bJ (he aa s σ H _ I h) λv s1 ⟨x,H1,I1,r1,q1⟩=>⟨x,σ,H1,I1,r1,q1⟩)
def GG (c:TT)(t u:TS):TS:=λD σ H=>c σ H λb H1=>if b=true then t D σ H1 else u D σ H1
theorem GH {c:Expr}{a b:List Stmt}{tc:TT}(hc:PT X c tc)(ha:pv X a t)(hb:pv X b u):PS X (.If c a b pos) (GG tc t u):=by
 intro aa s σ H D I h;refine wpAny_If (bJ (hc aa s σ H _ I h) λd s1 ⟨H1,I1,q1⟩=>?_);cases d with
 |true=>exact ha aa s1 σ H1 D I1 q1
 |false=>exact hb aa s1 σ H1 D I1 q1
end
abbrev TG:=V->St->Hp->(St->Hp->Prop)->Prop
abbrev Dg:=List V->St->Hp->(St->Hp->Prop)->Prop
def PG (X:Cx)(mQ:Expr)(t:TG):Prop :=
 ∀(aa:List (Addr×Obj))(s:Shared)(σ:St)(H:Hp)(v:V)(u:Value)(Q:St->Hp->Prop),Inv X aa σ H s->aK v u->t v σ H Q ->
  wq X (assign mQ X.env u) (λ_ s'=>∃σ' H',Inv X aa σ' H' s'/\Q σ' H') X.xe s
def qv (X:Cx)(ts:List Expr)(t:Dg):Prop :=
 ∀(aa:List (Addr×Obj))(s:Shared)(σ:St)(H:Hp)(vs:List V)(us:List Value)(Q:St->Hp->Prop),Inv X aa σ H s->aP vs us->t vs σ H Q ->
  wq X (assignInOrder ((assignEach ts X.env).map (·.2)) us) (λ_ s'=>∃σ' H',Inv X aa σ' H' s'/\Q σ' H') X.xe s
abbrev Ej:=V->V->V->Hp->(Hp->Prop)->Prop
def GI (X:Cx)(t:Ej):Prop :=
 ∀(aa:List (Addr×Obj))(s:Shared)(σ:St)(H:Hp)(o i v:V)(ov iv u:Value)(Q:Hp->Prop),Inv X aa σ H s->aK o ov->aK i iv->aK v u->t o i v H Q ->
  wq X (setItem ov iv u) (λ_ s'=>∃H',Inv X aa σ H' s'/\Q H') X.xe s
section
variable {X:Cx}{pos:Pos}
def iT (i:Nat):TG:=λv σ H Q=>Q (σ.set i (some v)) H
theorem uz (hN:X.N.Nodup)(hi:X.N[i]? = some x)(hx:De X.env.scope x)(hf:X.fn x=true∨X.env.scope.names.lookup x=some .local:=by first|exact .inl rfl|exact .inr rfl|assumption):PG X (.Name x pos) (iT i):=by
 intro aa s σ H v u Q I r h;exact wpAny_assign_Name (q9 I hN hi hx r (λs' I'=>⟨_,H,I',h⟩) hf)
def GJ:Dg:=λvs σ H Q=>vs=[]/\Q σ H
def Dh (t:TG)(u:Dg):Dg:=λvs σ H Q=>∃v r,vs=v::r/\t v σ H λσ' H'=>u r σ' H' Q
theorem iD:qv X [] GJ:=by
 intro aa s σ H vs us Q I r h;obtain⟨e,h⟩:=h;subst e;cases r
 exact assignInOrder_nil ⟨σ,H,I,h⟩
theorem cB {e:Expr}{es:List Expr}{t:TG}{u:Dg}(h1:PG X e t)(h2:qv X es u)
  (hs:(assignEach (e::es) X.env).map (·.2)=assign e X.env::(assignEach es X.env).map (·.2):=by rfl):qv X (e::es) (Dh t u):=by
 intro aa s σ H vs us Q I r h;obtain⟨v,vr,e1,h⟩:=h;subst e1;cases r with
 |cons r rr=>
  rw[hs];refine assignInOrder_cons (bJ (h1 aa s σ H _ _ _ I r h) λ_ s1 ⟨σ1,H1,I1,q1⟩=>?_);exact h2 aa s1 σ1 H1 _ _ Q I1 rr q1
def Ek (K:Frag)(n:Nat)(t:Dg):TG:=λv σ H Q=>∃a xs,v=.ref a/\gh K H a xs/\xs.length=n/\t xs σ H Q
theorem lH (hc:X.calm=true)(h:qv X es t)
  (hn:(assignEach es X.env).length=n:=by rfl) (lg:(assignEach es X.env).findIdx? (·.1)=none:=by rfl):PG X (.Tuple es k pos) (Ek X.K n t):=by
 intro aa s σ H v u Q I r hw;obtain⟨a,xs,e1,hq,hl,hw⟩:=hw;subst e1;cases r
 obtain⟨its,rv,ht,hz⟩:=I.tuple hq;refine assign_Tuple_tuple (I.ok.hd hc) ht (by simp[hn,←hl,rv.length]) lg λh' hx=>?_;have I1:Inv X aa σ H { s with heap:=h' }:=I.kept (t':=s.toks) λb o e=>hx b o (vS (vX e)) e;exact h aa _ σ H xs _ Q I1 (by simpa using rv) hw
def Kc (to ti:TE)(t:Ej):TG:=λv σ H Q=>to σ H λo H1=>ti σ H1 λi H2=>t o i v H2 λH3=>Q σ H3
theorem El {o i:Expr}{to ti:TE}{t:Ej}(ho:PE X o to)(hi:PE X i ti)(hs:GI X t)
  (ha:∀v,assign (.Subscript o i pos) X.env v=(do
   let ov ←holding [v] (eval o X.env)
   let iv ←holding [v,ov] (eval i X.env)
   standAt pos
   holding [v,ov,iv] (setItem ov iv v)
   release [v,ov,iv] []):=by intro _;rfl):PG X (.Subscript o i pos) (Kc to ti t):=by
 intro aa s σ H v u Q I r h;rw[ha];refine wX (wpAny_holding (bJ (ho aa s σ H _ I h) λov s1 ⟨x,H1,I1,r1,q1⟩=>?_));refine wX (wpAny_holding (bJ (hi aa s1 σ H1 _ I1 q1) λiv s2 ⟨y,H2,I2,r2,q2⟩=>?_));refine wX (wpAny_standAt (wX (wpAny_holding (bJ (hs aa s2 σ H2 x y v ov iv u _ I2 r1 r2 r q2) λ_ s3 ⟨H3,I3,q3⟩=>?_))));exact wpAny_release ⟨σ,H3,I3,q3⟩
def wC (te:TE)(g:TG):TS:=λD σ H=>te σ H λx H1=>g x σ H1 D.nx
theorem yv {tg e:Expr}{te:TE}{g:TG}(he:PE X e te)(hg:PG X tg g)(hs:swapsWithSole [tg] e pos.line X.env=pure false:=by rfl)(hw:swappedStores [tg] e X.env=pure none:=by rfl)
  (h1:(assignEach [tg] X.env).map (·.2)=[assign tg X.env]:=by rfl):PS X (.Assign [tg] e pos) (wC te g):=by
 intro aa s σ H D I h;refine wpAny_Assign_stores (bJ (he aa s σ H _ I h) λv s1 ⟨x,H1,I1,r1,q1⟩=>?_) hs hw;rw[h1];exact bJ (hg aa s1 σ H1 x v _ I1 r1 q1) λ_ s2 q=>q
theorem yw {i:Nat}{x:Str}{e:Expr}{te:TE}{FF:Pos}(hN:X.N.Nodup)(hi:X.N[i]? = some x)(hx:De X.env.scope x)(he:PE X e te)(hs:swapsWith e (some (.Name x FF)) pos.line X.env=pure false:=by rfl)(hf:X.fn x=true∨X.env.scope.names.lookup x=some .local:=by first|exact .inl rfl|exact .inr rfl|assumption):
  PS X (.Assign [.Name x FF] e pos) (wC te (iT i)):=by
 intro aa s σ H D I h;refine wpAny_Assign_Name (bJ (he aa s σ H _ I h) λv s1 ⟨y,H1,I1,r1,q1⟩=>?_) hs;exact q9 I1 hN hi hx r1 (λs2 I2=>⟨_,H1,I2,q1⟩) hf
end
structure It where
 go:Nat->Hp->Prop
 yld:Nat->Hp->V->Hp->Prop
 stop:Nat->Hp->Prop
def j5 (X:Cx)(aa:List (Addr×Obj))(H:Hp)(b:Addr):Prop :=
 H b=none/\b≠X.env.locals/\b∉X.fs/\(b∈X.ex∨X.s₀.heap.objs.size<=b)/\(∀x c,X.env.cells.lookup x=some c->c≠b)/\∀p∈X.pn++aa,p.1≠b
theorem Inv.fpOk (I:Inv X aa σ H s)(hb:s.heap.objs.size<=b)(hn:H' b=none):j5 X aa H' b:=by
 refine⟨hn,Nat.ne_of_gt (vQ I.lt hb),I.nofs hb,.inr (vR I.sz hb),λx c e z=>?_,λp hp z=>?_⟩
 ·obtain⟨v,q⟩:=I.cell x c e;exact absurd (vQ q.lt (by rw[z];exact hb)) (Nat.lt_irrefl _)
 ·exact absurd (vQ (vX (I.pin p hp).1) (by rw[z];exact hb)) (Nat.lt_irrefl _)
structure Turn (P:Program)(w:World)(K:Frag)(tg:Expr)(J:It)(fp:List Addr)(it:Addr)(tn:Nat->Heap->Prop):Prop where
 mem:it∈fp
 obj:∀i h,tn i h->∀b∈fp,∃o,h.get? b=some o/\∀v,o.data≠.cell v
 keep:∀i h h',tn i h->(∀b∈fp,∀o,h.get? b=some o->h'.get? b=some o)->tn i h'
 item:∀(X:Cx),X.prog=P->X.w=w->X.K=K->X.calm=true->∀(i:Nat)(aa:List (Addr×Obj))(s:Shared)(σ:St)(H:Hp)(E:Value->Shared->Prop),Inv X aa σ H s->(∀b∈fp,j5 X aa H b)->tn i s.heap->J.go i H ->
  wpAny (model P w) X.A (pyNext (.ref it)) (λr s1=>∃u,r=some u /\
   wpAny (model P w) X.A (letOwnedTupleGo tg (.ref it) u) (λ_ s2=>∃x H',Inv X aa σ H' s2/\aK x u/\J.yld i H x H'/\tn (i+1) s2.heap/\∀b∈fp,H' b=none) E s1) E s
 done:∀(X:Cx),X.prog=P->X.w=w->X.K=K->X.calm=true->∀(i:Nat)(aa:List (Addr×Obj))(s:Shared)(σ:St)(H:Hp)(E:Value->Shared->Prop),Inv X aa σ H s->(∀b∈fp,j5 X aa H b)->tn i s.heap->J.stop i H ->
  wpAny (model P w) X.A (pyNext (.ref it)) (λr s1=>r=none/\Inv X aa σ H s1) E s
 self:∀(A:Around)(i:Nat)(s:Shared)(Q:Value->Shared->Prop)(E:Value->Shared->Prop),tn i s.heap->Q (.ref it) s->wpAny (model P w) A (pyIter (.ref it)) Q E s
abbrev TI:=St->Hp->(It->Hp->Prop)->Prop
def Kd (X:Cx)(aa:List (Addr×Obj))(σ:St)(tg:Expr)(R:It->Hp->Prop)(J2:Value)(s2:Shared):Prop :=
 ∃(it:Addr)(fp:List Addr)(tn:Nat->Heap->Prop)(J:It)(H':Hp),J2=.ref it/\Inv X aa σ H' s2/\Turn X.prog X.w X.K tg J fp it tn/\tn 0 s2.heap/\(∀b∈fp,j5 X aa H' b)/\R J H'
def PI (X:Cx)(tg cz:Expr)(wi:TI):Prop :=
 ∀(aa:List (Addr×Obj))(s:Shared)(σ:St)(H:Hp)(R:It->Hp->Prop),Inv X aa σ H s->wi σ H R ->
  wq X (eval cz X.env) (λv s1=>wq X (pyIter v) (Kd X aa σ tg R) X.xe s1) X.xe s
theorem nK (ho:s.heap.get? it=some o)(hc:o.cls=.type n)(hd:o.data=.fields vs)
    (hn:["enumerate","zip","dict_itemiterator","dict_reverseitemiterator","odict_iterator","itertools.zip_longest","itertools.pairwise"].contains n=false) (hQ:Q () s):wpAny M A (letOwnedTupleGo tg (.ref it) u) Q E s:=by
  unfold letOwnedTupleGo;cases tg<;>first
    |exact wY hQ
    | (cases u<;>first
        |exact wY hQ
        | (refine wX (wpAny_load ho ?_)
           rw[hc,hd]
           show wpAny M A (if(["enumerate","zip","dict_itemiterator","dict_reverseitemiterator","odict_iterator","itertools.zip_longest","itertools.pairwise"].contains n && vs[0]? == some (rawInt _))=true then _ else _) Q E s
           rw[if_neg (by intro h;rw[hn,Bool.false_and]at h;cases h)]
           exact wY hQ))
noncomputable def Mc (K:Frag)(a:Addr):It :=
 ⟨λi H=>∃xs x,fU K H a xs/\xs[i]? = some x,λi H x H'=>H'=H/\∀xs,fU K H a xs->xs[i]? = some x,λi H=>∃xs,fU K H a xs/\xs.length<=i⟩
noncomputable def Md (K:Frag)(a:Addr):It :=
 ⟨λi H=>∃xs x,gh K H a xs/\xs[i]? = some x,λi H x H'=>H'=H/\∀xs,gh K H a xs->xs[i]? = some x,λi H=>∃xs,gh K H a xs/\xs.length<=i⟩
noncomputable def GK (lo:Int)(n:Nat):It:=⟨λi _=>i<n,λi H x H'=>H'=H/\x=.int (lo+i),λi _=>n<=i⟩
theorem wE {P:Program}{w:World}{K:Frag}{tg:Expr}(a it:Addr):Turn P w K tg (Mc K a) [it] it (λi h=>h.IsListIter it a i) where
 mem:=by simp
 obj:=λi h st b hb=>by
  have e:b=it:=by simpa using hb
  subst e;obtain⟨o,e,c,d⟩:=st;exact⟨o,e,λv z=>by rw[d]at z;cases z⟩
 keep:=λi h h' st k=>st.at λo e=>k it (by simp) o e
 item:=by
  intro X hP hw hK hc i aa s σ H E I hf st hg;subst hP hw hK;obtain⟨xs,x,hq,hx⟩:=hg;obtain⟨its,rv,p,hz⟩:=I.list hq;obtain⟨u,hu,ru⟩:=rv.get hx;obtain⟨f0,f1,f2,f3,f4,f5⟩:=hf it (by simp);refine wpAny_pyNext_list_item st p.isList (x:=u) (by simpa using hu) λh' mR sb=>?_;have I1:Inv X aa σ H { s with heap:=h' }:=I.turned (t':=s.toks) (λb o hb e=>(sb.2 b hb).trans e) f0 f1 f3 f4 f5;obtain⟨o,e,c,d⟩:=id mR;exact⟨u,rfl,nK (s:={ s with heap:=h' }) e c d (by decide) ⟨x,H,I1,ru,⟨rfl,λys hy=>by rw[I.list_inj hy hq];exact hx⟩,mR,λb hb=>(hf b hb).1⟩⟩
 done:=by
  intro X hP hw hK hc i aa s σ H E I hf st hg;subst hP hw hK;obtain⟨xs,hq,hx⟩:=hg;obtain⟨its,rv,p,hz⟩:=I.list hq;obtain⟨f0,f1,f2,f3,f4,f5⟩:=hf it (by simp);have hl:=rv.length;exact wpAny_pyNext_list_end (I.ok.hd hc) st p.isList (by simp;omega) λh' eb=>⟨rfl,I.turned (t':=s.toks) (λb o hb e=>eb b o hb e) f0 f1 f3 f4 f5⟩
 self:=λ_ _ _ _ _ st h=>wpAny_pyIter_listiter st h
theorem sP {P:Program}{w:World}{K:Frag}{tg:Expr}(a it:Addr):Turn P w K tg (Md K a) [it] it (λi h=>h.IsTupleIter it a i) where
 mem:=by simp
 obj:=λi h st b hb=>by
  have e:b=it:=by simpa using hb
  subst e;obtain⟨o,e,c,d⟩:=st;exact⟨o,e,λv z=>by rw[d]at z;cases z⟩
 keep:=λi h h' st k=>st.at λo e=>k it (by simp) o e
 item:=by
  intro X hP hw hK hc i aa s σ H E I hf st hg;subst hP hw hK;obtain⟨xs,x,hq,hx⟩:=hg;obtain⟨its,rv,p,hz⟩:=I.tuple hq;obtain⟨u,hu,ru⟩:=rv.get hx;obtain⟨f0,f1,f2,f3,f4,f5⟩:=hf it (by simp);refine wpAny_pyNext_tuple_item st (show s.heap.IsTuple a its.toArray from p) (x:=u) (by simpa using hu) λh' mR sb=>?_;have I1:Inv X aa σ H { s with heap:=h' }:=I.turned (t':=s.toks) (λb o hb e=>(sb.2 b hb).trans e) f0 f1 f3 f4 f5;obtain⟨o,e,c,d⟩:=id mR;exact⟨u,rfl,nK (s:={ s with heap:=h' }) e c d (by decide) ⟨x,H,I1,ru,⟨rfl,λys hy=>by rw[I.tuple_inj hy hq];exact hx⟩,mR,λb hb=>(hf b hb).1⟩⟩
 done:=by
  intro X hP hw hK hc i aa s σ H E I hf st hg;subst hP hw hK;obtain⟨xs,hq,hx⟩:=hg;obtain⟨its,rv,p,hz⟩:=I.tuple hq;obtain⟨f0,f1,f2,f3,f4,f5⟩:=hf it (by simp);have hl:=rv.length;exact wpAny_pyNext_tuple_end (I.ok.hd hc) st (show s.heap.IsTuple a its.toArray from p) (by simp;omega) λh' eb=>⟨rfl,I.turned (t':=s.toks) (λb o hb e=>eb b o hb e) f0 f1 f3 f4 f5⟩
 self:=λ_ _ _ _ _ st h=>wpAny_pyIter_tupleiter st h
theorem sQ {P:Program}{w:World}{K:Frag}{tg:Expr}(it:Addr)(lo:Int)(n:Nat):Turn P w K tg (GK lo n) [it] it (λi h=>IsRangeIter h it (lo+(i:Nat)*1) ((n:Int) - (i:Nat)) 1) where
 mem:=by simp
 obj:=λi h st b hb=>by
  have e:b=it:=by simpa using hb
  subst e;exact⟨_,st,λv z=>by
   have z':Data.fields _=Data.cell v:=z;cases z'⟩
 keep:=λi h h' st k=>k it (by simp) _ st
 item:=by
  intro X hP hw hK hc i aa s σ H E I hf st hg;subst hP hw hK;obtain⟨f0,f1,f2,f3,f4,f5⟩:=hf it (by simp);have W:=Walks.range (prog:=X.prog) (w:=X.w) (I.ok.hd hc) it lo 1 n;refine W.item i s _ _ hg st λv h' tk hv mR kk=>?_;obtain⟨t,rfl⟩:=hv;have I1:Inv X aa σ H { s with heap:=h',toks:=tk }:=I.turned (λb o hb e=>kk b o (by simpa using hb) e) f0 f1 f3 f4 f5;refine⟨_,rfl,nK (s:={ s with heap:=h',toks:=tk }) (n:="range_iterator") mR rfl rfl (by decide) ⟨.int (lo+i),H,I1,⟨t,?_⟩,⟨rfl,rfl⟩,mR,λb hb=>(hf b hb).1⟩⟩;rw[Int.mul_one]
 done:=by
  intro X hP hw hK hc i aa s σ H E I hf st hg;subst hP hw hK;obtain⟨f0,f1,f2,f3,f4,f5⟩:=hf it (by simp);exact wpAny_pyNext_range_end (I.ok.hd hc) st (by have:n<=i:=hg;omega) λh' eb=>⟨rfl,I.turned (t':=s.toks) (λb o hb e=>eb b o hb e) f0 f1 f3 f4 f5⟩
 self:=λ_ _ _ _ _ st h=>wpAny_pyIter_rangeiter st h
section
variable {X:Cx}{tg:Expr}
def GL (K:Frag)(tl:TE):TI:=λσ H R=>tl σ H λx H1=>∃a,x=.ref a/\(∃xs,fU K H1 a xs)/\R (Mc K a) H1
def Ke (K:Frag)(tl:TE):TI:=λσ H R=>tl σ H λx H1=>∃a,x=.ref a/\(∃xs,gh K H1 a xs)/\R (Md K a) H1
theorem Bi {l:Expr}{tl:TE}(hl:PE X l tl):PI X tg l (GL X.K tl):=by
 intro aa s σ H R I h;refine bJ (hl aa s σ H _ I h) λv s1 ⟨x,H1,I1,r1,q1⟩=>?_;obtain⟨a,e,⟨xs,hq⟩,q⟩:=q1;subst e;cases r1
 obtain⟨its,rv,p,hz⟩:=I1.list hq;refine wpAny_pyIter_list p.isList ?_;refine⟨s1.heap.objs.size,[s1.heap.objs.size],_,_,H1,rfl,I1.kept (t':=s1.toks) λb o e=>vZ _ e,wE a _,⟨_,vY _ rfl,rfl,rfl⟩,λb hb=>?_,q⟩;have e:b=s1.heap.objs.size:=by simpa using hb
 subst e;exact I1.fpOk (vT _) (I1.hok.fresh (vT _))
theorem Em {l:Expr}{tl:TE}(hl:PE X l tl):PI X tg l (Ke X.K tl):=by
 intro aa s σ H R I h;refine bJ (hl aa s σ H _ I h) λv s1 ⟨x,H1,I1,r1,q1⟩=>?_;obtain⟨a,e,⟨xs,hq⟩,q⟩:=q1;subst e;cases r1
 obtain⟨its,rv,p,hz⟩:=I1.tuple hq;refine wpAny_pyIter_tuple (show s1.heap.IsTuple a its.toArray from p) ?_;refine⟨s1.heap.objs.size,[s1.heap.objs.size],_,_,H1,rfl,I1.kept (t':=s1.toks) λb o e=>vZ _ e,sP a _,⟨_,vY _ rfl,rfl,rfl⟩,λb hb=>?_,q⟩;have e:b=s1.heap.objs.size:=by simpa using hb
 subst e;exact I1.fpOk (vT _) (I1.hok.fresh (vT _))
theorem qA {aa:List (Addr×Obj)}{σ:St}{H:Hp}{s:Shared}{R:It->Hp->Prop}{E:Value->Shared->Prop}{lo hi:Int}{t u v:Tok}{tk:Nat}(I:Inv X aa σ H s)(h1 : -(2 ^ 62)<=lo)(h2:lo<2 ^ 62)(h3 : -(2 ^ 62)<=hi)(h4:hi<2 ^ 62)
  (q:R (GK lo (hi - lo).toNat) H):wq X (pyIter (.ref s.heap.objs.size)) (Kd X aa σ tg R) E { s with heap:=s.heap.push { cls:=.type "range",data:=.fields #[.int lo t,.int hi u,.int 1 v] },toks:=tk }:=by
 refine wpAny_pyIter_range (IsRange.new ..) (small_one h1 h2 h3 h4) ?_;have I1:Inv X aa σ H { s with heap:=s.heap.push { cls:=.type "range",data:=.fields #[.int lo t,.int hi u,.int 1 v] },toks:=tk }:=I.kept λb o e=>vZ _ e;refine⟨(s.heap.push { cls:=.type "range",data:=.fields #[.int lo t,.int hi u,.int 1 v] }).objs.size,[(s.heap.push { cls:=.type "range",data:=.fields #[.int lo t,.int hi u,.int 1 v] }).objs.size],_,_,H,rfl,
  I1.kept (t':=tk) λb o e=>vZ _ e,sQ _ lo (hi - lo).toNat,?_,λb hb=>?_,q⟩
 ·have e1:lo+((0:Nat):Int)*1=lo:=by simp
  have e2:(((hi - lo).toNat:Nat):Int) - ((0:Nat):Int)=Builtin.Range.rangeSize lo hi 1:=by rw[rangeSize_one];split<;>omega
  show IsRangeIter _ _ (lo+((0:Nat):Int)*1) ((((hi - lo).toNat:Nat):Int) - ((0:Nat):Int)) 1;rw[e1,e2];exact vY _ rfl
 ·have e:b=(s.heap.push { cls:=.type "range",data:=.fields #[.int lo t,.int hi u,.int 1 v] }).objs.size:=by simpa using hb
  subst e;exact I1.fpOk (vT _) (I1.hok.fresh (vT _))
def GN (ta:TA):TI:=λσ H R=>ta σ H λvs H1=>∃j:Int,vs=[.int j]/\-(2 ^ 62)<=j/\j<2 ^ 62/\R (GK 0 j.toNat) H1
def GO (ta:TA):TI:=λσ H R=>ta σ H λvs H1=>∃i j:Int,vs=[.int i,.int j]/\(-(2 ^ 62)<=i/\i<2 ^ 62/\-(2 ^ 62)<=j/\j<2 ^ 62)/\R (GK i (j - i).toNat) H1
theorem wF {a:Expr}{ta:TA}{p pos:Pos}(hg:Gl X "range")(hm:X.mg "range" = none)(ha:PA X [a] ta)(hs:starEach [a] X.env=[(false,eval a X.env)]:=by rfl):PI X tg (.Call (.Name "range" p) [a] [] pos) (GN ta):=by
 intro aa s σ H R I h;refine Call_ (fT I hg hm boot_range (PyProof.Rows.callWith_type1 (bJ (ha pos aa s σ H _ I h) λus s1 ⟨vs,H1,I1,r1,q1⟩=>?_) hs rfl));obtain⟨j,e,q1,q2,q⟩:=q1;subst e;cases r1 with
 |cons r rr=>
  cases rr
  obtain⟨t,rfl⟩:=r;exact call_range_1 (qA I1 (by omega) (by omega) q1 q2 (by simpa using q))
theorem wG {a b:Expr}{ta:TA}{p pos:Pos}(hg:Gl X "range")(hm:X.mg "range" = none)(ha:PA X [a,b] ta)(hs:starEach [a,b] X.env=[(false,eval a X.env),(false,eval b X.env)]:=by rfl)(j0:starEach [b] X.env=[(false,eval b X.env)]:=by rfl):
  PI X tg (.Call (.Name "range" p) [a,b] [] pos) (GO ta):=by
 intro aa s σ H R I h;refine Call_ (fT I hg hm boot_range (PyProof.Rows.callWith_type1 (bJ (ha pos aa s σ H _ I h) λus s1 ⟨vs,H1,I1,r1,q1⟩=>?_) (by rw[hs,j0]) (by rw[j0];rfl)));obtain⟨i,j,e,⟨q1,q2,q3,q4⟩,q⟩:=q1;subst e;cases r1 with
 |cons r rr=>
  cases rr with
  |cons r' rr=>
   cases rr
   obtain⟨t,rfl⟩:=r;obtain⟨t',rfl⟩:=r';exact call_range_2 (qA I1 q1 q2 q3 q4 q)
def En (wi:TI)(g:TG)(tb:TS):TS:=λD σ H=>wi σ H λJ H1=>∃W:Nat->Nat->St->Hp->Prop,(∃m,W 0 m σ H1)/\∀i m σ H,W i m σ H ->
 (J.stop i H/\D.nx σ H)∨(J.go i H/\∃N:St->Hp->Prop,(∀σ' H',N σ' H'->∃m',m'<m/\W (i+1) m' σ' H')/\∀x H',J.yld i H x H'->g x σ H' λσ2 H2=>tb { D with nx:=N,ct:=N,bk:=D.nx } σ2 H2)
def km (fp:List Addr)(h:Heap):List (Addr×Obj):=fp.filterMap λb=>(h.get? b).map λo=>(b,o)
theorem gF {fp:List Addr}{h:Heap}{b:Addr}{o:Obj}(hb:b∈fp)(e:h.get? b=some o):(b,o)∈km fp h:=List.mem_filterMap.mpr ⟨b,hb,by rw[e];rfl⟩
theorem wH (hp:p∈km fp h):p.1∈fp/\h.get? p.1=some p.2:=by
 obtain⟨b,hb,e⟩:=List.mem_filterMap.mp hp;cases q:h.get? b with
 |none=>rw[q]at e;cases e
 |some o=>
  rw[q]at e;have e':(b,o)=p:=vK e;subst e';exact⟨hb,q⟩
theorem Inv.pinned (I:Inv X aa σ H s)(hf:∀b∈fp,j5 X aa H b)(ho:∀b∈fp,∃o,s.heap.get? b=some o/\∀v,o.data≠.cell v):Inv X (aa++km fp s.heap) σ H s :=
 I.pins_of λp hp=>(List.mem_append.mp hp).elim (λz=>I.pin p (mY _ z)) λz=>by
  obtain⟨hb,e⟩:=wH z;obtain⟨f0,f1,f2,_⟩:=hf p.1 hb;obtain⟨o,e',d⟩:=ho p.1 hb;rw[e]at e';cases e';exact⟨e,f0,f1,f2,d⟩
theorem Inv.unpinned (I:Inv X (aa++pl) σ H s):Inv X aa σ H s:=I.pins_of λp hp=>I.pin p (mY _ (List.mem_append_left _ hp))
theorem yx {cz:Expr}{body:List Stmt}{wi:TI}{g:TG}{tb:TS}{pos:Pos}(hp:PassesOwn (model X.prog X.w) X.A X.env X.xe)(hc:X.calm=true)(hi:PI X tg cz wi)(hg:PG X tg g)(hb:pv X body tb)
  (hs:∀x,foldedSetIterable cz X.env x=pure x:=by intro _;rfl):PS X (.For tg cz body [] pos) (En wi g tb):=by
 intro aa s σ H D I h;refine wpAny_For (bJ (hi aa s σ H _ I h) λv s1 h1=>bJ h1 λJ2 s2 h2=>?_) hs;obtain⟨it,fp,tn,J,H2,e,I2,T,uv,f2,W,⟨m0,w0⟩,FH⟩:=h2;subst e
 -- what stays true of the iterator's objects through the xY
 have FI:∀ {H':Hp},(∀b∈fp,H' b=none)->∀b∈fp,j5 X aa H' b:=λhn b hb=>⟨hn b hb,(f2 b hb).2⟩;refine codeAny_forLoop_any (λn s'=>∃i σ' H',Inv X aa σ' H' s'/\tn i s'.heap/\(∀b∈fp,H' b=none)/\W i n σ' H') ?_ m0 ⟨0,σ,H2,I2,uv,λb hb=>(f2 b hb).1,w0⟩;rintro n s3 ⟨i,σ3,H3,I3,Iy,M1,w3⟩;rcases FH i n σ3 H3 w3 with⟨stop,qn⟩|⟨go,N,hN,step⟩
 ·refine wpAny_passesOwn hp (bJ (T.done X rfl rfl rfl hc i aa s3 σ3 H3 X.xe I3 (FI M1) Iy stop) λr s4 ⟨hr,I4⟩=>?_);subst hr;exact wpAny_execs_nil ⟨σ3,H3,I4,qn⟩
 ·refine wpAny_passesOwn hp (bJ (T.item X rfl rfl rfl hc i aa s3 σ3 H3 X.xe I3 (FI M1) Iy go) λr s4 ⟨u,hr,h4⟩=>?_);subst hr;refine wpAny_passesOwn hp (bJ h4 λ_ s5 ⟨x,H5,I5,r5,y5,KS,KU⟩=>?_);have Oy:=I5.pinned (FI KU) (T.obj _ _ KS);refine wpAny_passesOwn hp (bJ (hg _ s5 σ3 H5 x u _ Oy r5 (step x H5 y5)) λ_ s6 ⟨σ6,H6,I6,q6⟩=>?_);refine wpAny_passesOwn hp (bJ (hb _ s6 σ6 H6 _ I6 q6) λf s7 q7=>?_);have again:∀ {σ7:St}{H7:Hp},Inv X (aa++km fp s5.heap) σ7 H7 s7->N σ7 H7->∃m,m<n/\∃i σ' H',Inv X aa σ' H' s7/\tn i s7.heap/\(∀b∈fp,H' b=none)/\W i m σ' H':=λ{σ7 H7} I7 n7=>by
   obtain⟨m',hm,w7⟩:=hN σ7 H7 n7;refine⟨m',hm,i+1,σ7,H7,I7.unpinned,T.keep _ _ _ KS λb hb o e=>(I7.pin (b,o) (mY _ (mY _ (gF hb e)))).1,λb hb=>?_,w7⟩;obtain⟨o,e,d⟩:=T.obj _ _ KS b hb;exact(I7.pin (b,o) (mY _ (mY _ (gF hb e)))).2.1
  cases f with
  |next=>obtain⟨σ7,H7,I7,n7⟩:=q7;exact again I7 n7
  |cont=>obtain⟨σ7,H7,I7,n7⟩:=q7;exact again I7 n7
  |brk=>obtain⟨σ7,H7,I7,q7⟩:=q7;exact⟨σ7,H7,I7.unpinned,q7⟩
  |ret v=>obtain⟨x7,σ7,H7,I7,r7,q7⟩:=q7;exact⟨x7,σ7,H7,I7.unpinned,r7,q7⟩
end
abbrev R2:=V->V->Hp->VK->Prop
def c6 (X:Cx)(f:Value->Value->Sem Value)(r:R2):Prop :=
 ∀(aa:List (Addr×Obj))(s:Shared)(σ:St)(H:Hp)(x y:V)(v u:Value)(Q:VK),Inv X aa σ H s->aK x v->aK y u->r x y H Q ->
  wq X (f v u) (EP X aa σ Q) X.xe s
def GP (X:Cx)(f:Value->Sem Value)(r:V->Hp->VK->Prop):Prop :=
 ∀(aa:List (Addr×Obj))(s:Shared)(σ:St)(H:Hp)(x:V)(v:Value)(Q:VK),Inv X aa σ H s->aK x v->r x H Q ->
  wq X (f v) (EP X aa σ Q) X.xe s
def bG (X:Cx)(f:Value)(r:List V->Hp->VK->Prop):Prop :=
 ∀(aa:List (Addr×Obj))(s:Shared)(σ:St)(H:Hp)(xs:List V)(us:List Value)(Q:VK),Inv X aa σ H s->aP xs us->r xs H Q ->
  wq X (call f us) (EP X aa σ Q) X.xe s
def Js (r:R2)(ta tb:TE):TE:=λσ H Q=>ta σ H λx H1=>tb σ H1 λy H2=>r x y H2 Q
def NF (r:V->Hp->VK->Prop)(ta:TE):TE:=λσ H Q=>ta σ H λx H1=>r x H1 Q
def rI (C:Int->Int->Prop)(g:Int->Int->V):R2:=λx y H Q=>∃i j,x=.int i/\y=.int j/\C i j/\Q (g i j) H
def yy (g:Int->Int->V):R2:=λx y H Q=>∃i j,x=.int i/\y=.int j/\Q (g i j) H
def rU (g:Int->V):V->Hp->VK->Prop:=λx H Q=>∃i,x=.int i/\Q (g i) H
section
variable {X:Cx}{a b c:Expr}{ta tb tc:TE}{pos:Pos}
theorem Eo (ha:PE X a ta)(hb:PE X b tb){aa:List (Addr×Obj)}{s:Shared}{σ:St}{H:Hp}{R:V->V->Hp->Prop}(I:Inv X aa σ H s)
  (h:ta σ H λx H1=>tb σ H1 λy H2=>R x y H2) {Q:Value->Shared->Prop}{f:Value->Value->Sem Value}
  (hf:∀v u s2 x y H2,Inv X aa σ H2 s2->aK x v->aK y u->R x y H2->wq X (f v u) Q X.xe s2):
  wq X (eval a X.env) (λv s₁=>wq X (eval b X.env) (λu s₂=>wq X (f v u) Q X.xe s₂) X.xe s₁) X.xe s:=by
 refine bJ (ha aa s σ H _ I h) λv s1 ⟨x,H1,I1,r1,q1⟩=>?_;refine bJ (hb aa s1 σ H1 _ I1 q1) λu s2 ⟨y,H2,I2,r2,q2⟩=>?_;exact hf v u s2 x y H2 I2 r1 r2 q2
theorem GQ {op:Operator}{r:R2}(ho:c6 X (binaryOp op) r)(ha:PE X a ta)(hb:PE X b tb):PE X (.BinOp a op b pos) (Js r ta tb):=by
 intro aa s σ H Q I h;exact wpAny_BinOp (Eo ha hb I h λv u s2 x y H2 I2 rx ry q=>ho aa s2 σ H2 x y v u Q I2 rx ry q)
theorem GS {op:UnaryOp}{r:V->Hp->VK->Prop}(ho:GP X (unaryOp op) r)(ha:PE X a ta):PE X (.UnaryOp op a pos) (NF r ta):=by
 intro aa s σ H Q I h;exact UnaryOp_ (bJ (ha aa s σ H _ I h) λv s1 ⟨x,H1,I1,r1,q1⟩=>ho aa s1 σ H1 x v Q I1 r1 q1)
theorem Ep {f:Value->Value->Sem Value}{C:Int->Int->Prop}{g:Int->Int->Int}
  (rule:∀(i j:Int)(t u:Tok)(s:Shared)(Q:Value->Shared->Prop)(E:Value->Shared->Prop),C i j->Q (.int (g i j) s.toks) { s with toks:=s.toks+1 }->wq X (f (.int i t) (.int j u)) Q E s):
  c6 X f (rI C λi j=>.int (g i j)):=by
 intro aa s σ H x y v u Q I rx ry h;obtain⟨i,j,rfl,rfl,hc,q⟩:=h;obtain⟨t,rfl⟩:=rx;obtain⟨t',rfl⟩:=ry;exact rule i j t t' s _ _ hc ⟨.int (g i j),H,I.tok _,⟨_,rfl⟩,q⟩
theorem Bj {f:Value->Value->Sem Value}{g:Int->Int->Int}
  (rule:∀(i j:Int)(t u:Tok)(s:Shared)(Q:Value->Shared->Prop)(E:Value->Shared->Prop),Q (.int (g i j) s.toks) { s with toks:=s.toks+1 }->wq X (f (.int i t) (.int j u)) Q E s):
  c6 X f (yy λi j=>.int (g i j)):=by
 intro aa s σ H x y v u Q I rx ry h;obtain⟨i,j,rfl,rfl,q⟩:=h;obtain⟨t,rfl⟩:=rx;obtain⟨t',rfl⟩:=ry;exact rule i j t t' s _ _ ⟨.int (g i j),H,I.tok _,⟨_,rfl⟩,q⟩
theorem Bk {f:Value->Value->Sem Value}{g:Int->Int->Bool}
  (rule:∀(i j:Int)(t u:Tok)(s:Shared)(Q:Value->Shared->Prop)(E:Value->Shared->Prop),Q (.bool (g i j)) s->wq X (f (.int i t) (.int j u)) Q E s):
  c6 X f (yy λi j=>.bl (g i j)):=by
 intro aa s σ H x y v u Q I rx ry h;obtain⟨i,j,rfl,rfl,q⟩:=h;obtain⟨t,rfl⟩:=rx;obtain⟨t',rfl⟩:=ry;exact rule i j t t' s _ _ ⟨.bl (g i j),H,I,rfl,q⟩
def GU (i j:Int):Prop:=0<j/\j<1073741824
def Bl (i j:Int):Prop:=0<=j/\j<=1000000/\i.natAbs<2 ^ 64
def Bm (i j:Int):Prop:=(-(2 ^ 64)<i/\i<2 ^ 64)∨(-(2 ^ 64)<j/\j<2 ^ 64)
theorem Bm.ok (h:Bm i j):IntMulOk i j:=by
 rcases h with⟨h1,h2⟩|⟨h1,h2⟩
 ·exact .of_left (intBits_le_64 h1 h2)
 ·exact .of_right (intBits_le_64 h1 h2)
theorem sR (k:Nat):(0:Int)<=2 ^ k:=by
 rw[two_pow_cast];exact Int.natCast_nonneg _
theorem Er:c6 X (binaryOp .Add) (yy λi j=>.int (i+j)):=Bj λ_ _ _ _ _ _ _ q=>add_int q
theorem Es:c6 X (binaryOp .Sub) (yy λi j=>.int (i - j)):=Bj λ_ _ _ _ _ _ _ q=>sub_int q
theorem Et:c6 X (binaryOp .Mult) (rI Bm λi j=>.int (i*j)):=Ep λ_ _ _ _ _ _ _ hc q=>mul_int q hc.ok
theorem Bn:c6 X (binaryOp .FloorDiv) (rI GU λi j=>.int (i / j)):=Ep λi j _ _ _ _ _ hc q=>by
 have h1:(0:Int)<j:=hc.1;have h2:j<1073741824:=hc.2;exact floordiv_int (by omega) (by rw[Int.fdiv_eq_ediv_of_nonneg i (by omega)];exact q) (.inl (PyProof.noPylong_small (by omega)))
theorem Eu:c6 X (binaryOp .Mod) (rI (λ_ j=>0<j) λi j=>.int (i % j)):=Ep λi j _ _ _ _ _ hc q=>by
 have h1:(0:Int)<j:=hc;exact mod_int' (by omega) (by rw[Int.fmod_eq_emod_of_nonneg i (by omega)];exact q)
theorem Ev:c6 X (binaryOp .Pow) (rI Bl λi j=>.int (i ^ j.toNat)):=Ep λ_ _ _ _ _ _ _ hc q=>pow_int_small hc.1 hc.2.1 hc.2.2 q
theorem Ew:c6 X (binaryOp .LShift) (rI Bl λi j=>.int (i*2 ^ j.toNat)):=Ep λ_ _ _ _ _ _ _ hc q=>lshift_int_small hc.1 hc.2.1 hc.2.2 q
theorem Ex:c6 X (binaryOp .RShift) (rI (λ_ j=>0<=j) λi j=>.int (i / 2 ^ j.toNat)):=Ep λi j _ _ _ _ _ hc q=>
 rshift_int hc (by rw[Int.fdiv_eq_ediv_of_nonneg i (sR _)];exact q)
theorem Ey:c6 X (binaryOp .BitAnd) (yy λi j=>.int (Builtin.bitAnd i j)):=Bj λ_ _ _ _ _ _ _ q=>and_int q
theorem GV:c6 X (binaryOp .BitOr) (yy λi j=>.int (Builtin.bitOr i j)):=Bj λ_ _ _ _ _ _ _ q=>or_int q
theorem NG {f:Value->Sem Value}{g:Int->Int}
  (rule:∀(i:Int)(t:Tok)(s:Shared)(Q:Value->Shared->Prop)(E:Value->Shared->Prop),Q (.int (g i) s.toks) { s with toks:=s.toks+1 }->wq X (f (.int i t)) Q E s):
  GP X f (rU λi=>.int (g i)):=by
 intro aa s σ H x v Q I rx h;obtain⟨i,rfl,q⟩:=h;obtain⟨t,rfl⟩:=rx;exact rule i t s _ _ ⟨.int (g i),H,I.tok _,⟨_,rfl⟩,q⟩
theorem Ez:GP X (unaryOp .USub) (rU λi=>.int (-i)):=NG λ_ _ _ _ _ q=>neg_int q
theorem wI:c6 X (binaryOp .Add) (λx y H Q=>∃i k,x=.int i/\y=.bl k/\Q (.int (i+b2i k)) H):=by
 intro aa s σ H x y v u Q I rx ry h;obtain⟨i,k,rfl,rfl,q⟩:=h;obtain⟨t,rfl⟩:=rx;cases ry
 exact add_int_bool ⟨.int (i+b2i k),H,I.tok _,⟨_,rfl⟩,q⟩
end
section
variable {X:Cx}{a b c:Expr}{ta tb tc:TE}{pos:Pos}
theorem GW:c6 X (compareOp .Lt) (yy λi j=>.bl (decide (i<j))):=Bk λ_ _ _ _ _ _ _ q=>lt_int q
theorem GY:c6 X (compareOp .LtE) (yy λi j=>.bl (decide (i<=j))):=Bk λ_ _ _ _ _ _ _ q=>le_int q
theorem GZ:c6 X (compareOp .Gt) (yy λi j=>.bl (decide (j<i))):=Bk λ_ _ _ _ _ _ _ q=>gt_int q
theorem Ha:c6 X (compareOp .GtE) (yy λi j=>.bl (decide (j<=i))):=Bk λ_ _ _ _ _ _ _ q=>ge_int q
theorem c6.or (h:c6 X f r)(h':c6 X f r'):c6 X f (λx y H Q=>r x y H Q∨r' x y H Q):=by
 intro aa s σ H x y v u Q I rx ry q;rcases q with q|q
 ·exact h aa s σ H x y v u Q I rx ry q
 ·exact h' aa s σ H x y v u Q I rx ry q
theorem Kf (b:Expr)(h:op≠.In:=by decide)(h2:op≠.NotIn:=by decide):behindInMarks op b=false:=by
 have e1:(op == CmpOp.In)=false:=by cases op<;>first|rfl|exact absurd rfl h
 have e2:(op == CmpOp.NotIn)=false:=by cases op<;>first|rfl|exact absurd rfl h2
 cases b<;>simp[behindInMarks,e1,e2]
theorem Bo (ho:c6 X (compareOp op) r)(ha:PE X a ta)(hb:PE X b tb)(hm:behindInMarks op b=false):PE X (.Compare a [op] [b] pos) (Js r ta tb):=by
 intro aa s σ H Q I h;exact wpAny_Compare1 (Eo ha hb I h λv u s2 x y H2 I2 rx ry q=>ho aa s2 σ H2 x y v u Q I2 rx ry q) hm
def Di (t:TE):TT:=λσ H Q=>t σ H λx H'=>∃k,x=.bl k/\Q k H'
theorem u0 {op:CmpOp}{r:R2}(ho:c6 X (compareOp op) r)(ha:PE X a ta)(hb:PE X b tb)(hm:behindInMarks op b=false):PT X (.Compare a [op] [b] pos) (Di (Js r ta tb)):=by
 intro aa s σ H Q I h;refine wpAny_isTrue_Compare1 (bJ (ha aa s σ H _ I h) λv s1 ⟨x,H1,I1,r1,q1⟩=>bJ (hb aa s1 σ H1 _ I1 q1) λu s2 ⟨y,H2,I2,r2,q2⟩=>
  bJ (ho aa s2 σ H2 x y v u _ I2 r1 r2 q2) λc s3 ⟨z,H3,I3,r3,k,e,q3⟩=>?_) hm
 subst e;cases r3
 exact wpAny_truthy_bool ⟨H3,I3,q3⟩
def sS (r r':R2)(ta tb tc:TE):TE:=λσ H Q=>ta σ H λx H1=>tb σ H1 λy H2=>r x y H2 λz H3=>∃k,z=.bl k /\
 (if k=true then tc σ H3 λw' H4=>r' y w' H4 Q else Q (.bl false) H3)
theorem yz {op xZ:CmpOp}{r r':R2}(ho:c6 X (compareOp op) r)(uu:c6 X (compareOp xZ) r')(ha:PE X a ta)(hb:PE X b tb)(hc:PE X c tc)
  (hm:lastMarks [op,xZ] [b,c]=false:=by with_unfolding_all rfl):PE X (.Compare a [op,xZ] [b,c] pos) (sS r r' ta tb tc):=by
 intro aa s σ H Q I h;refine Compare_chain (bJ (ha aa s σ H _ I h) λv s1 ⟨x,H1,I1,r1,q1⟩=>chain_link (bJ (hb aa s1 σ H1 _ I1 q1) λu s2 ⟨y,H2,I2,r2,q2⟩=>
  bJ (ho aa s2 σ H2 x y v u _ I2 r1 r2 q2) λd s3 ⟨z,H3,I3,r3,k,e,q3⟩=>?_)) hm
 subst e;cases r3
 refine wpAny_truthy_bool ?_;cases k with
 |false=>exact ite_ff ⟨.bl false,H3,I3,rfl,q3⟩
 |true=>exact ite_tt (chain_last (bJ (hc aa s3 σ H3 _ I3 q3) λw' s4 ⟨z',H4,I4,r4,q4⟩=>uu aa s4 σ H4 y z' u w' Q I4 r2 r4 q4))
theorem y0 {op xZ:CmpOp}{r r':R2}(ho:c6 X (compareOp op) r)(uu:c6 X (compareOp xZ) r')(ha:PE X a ta)(hb:PE X b tb)(hc:PE X c tc)
  (hm:lastMarks [op,xZ] [b,c]=false:=by with_unfolding_all rfl):PT X (.Compare a [op,xZ] [b,c] pos) (Di (sS r r' ta tb tc)):=by
 intro aa s σ H Q I h;refine isTrue_chain (bJ (ha aa s σ H _ I h) λv s1 ⟨x,H1,I1,r1,q1⟩=>test_link (bJ (hb aa s1 σ H1 _ I1 q1) λu s2 ⟨y,H2,I2,r2,q2⟩=>
  bJ (ho aa s2 σ H2 x y v u _ I2 r1 r2 q2) λd s3 ⟨z,H3,I3,r3,k,e,q3⟩=>?_)) hm
 subst e;cases r3
 refine wpAny_truthy_bool ?_;cases k with
 |false=>
  obtain⟨k',e',q'⟩:=q3;cases e'
  exact ite_ff ⟨H3,I3,q'⟩
 |true=>
  refine ite_tt (test_last (bJ (hc aa s3 σ H3 _ I3 q3) λw' s4 ⟨z',H4,I4,r4,q4⟩=>bJ (uu aa s4 σ H4 y z' u w' _ I4 r2 r4 q4) λd' s5 ⟨z2,H5,I5,r5,k2,e2,q5⟩=>?_));subst e2;cases r5
  exact wpAny_truthy_bool ⟨H5,I5,q5⟩
theorem kn:(sizeLine:Nat)<2 ^ 63:=by rw[sizeLine_eq];decide
theorem sT:c6 X (binaryOp .Add) (λx y H Q=>∃i j,x=.str i/\y=.str j/\i.length+j.length<=sizeLine/\Q (.str (i++j)) H):=by
 intro aa s σ H x y v u Q I rx ry h;obtain⟨i,j,rfl,rfl,hz,q⟩:=h;obtain⟨t,rfl⟩:=rx;obtain⟨t',rfl⟩:=ry;exact add_str (λt' tk=>⟨.str (i++j),H,I.tok _,⟨_,rfl⟩,q⟩) hz
theorem gX (r:aP [x] us):∃u,us=[u]/\aK x u:=by
 cases r with
 |cons r1 r2=>cases r2;exact⟨_,rfl,r1⟩
theorem y3 (r:aP [x,y] us):∃u w',us=[u,w']/\aK x u/\aK y w':=by
 cases r with
 |cons r1 r2=>
  cases r2 with
  |cons r3 r4=>cases r4;exact⟨_,_,rfl,r1,r3⟩
theorem wJ (hc:X.calm=true):bG X (.builtin "min") (λxs H Q=>∃i j,xs=[.int i,.int j]/\Q (.int (if j<i then j else i)) H):=by
 intro aa s σ H xs us Q I r h;obtain⟨i,j,rfl,q⟩:=h;obtain⟨u,w',rfl,⟨t,rfl⟩,⟨t',rfl⟩⟩:=y3 r;refine min_two_ints (I.ok.hd hc) λh' tk k=>⟨_,H,I.kept k,?_,q⟩;by_cases hj:j<i
 ·rw[if_pos hj,if_pos hj];exact⟨_,rfl⟩
 ·rw[if_neg hj,if_neg hj];exact⟨_,rfl⟩
end
structure CO (h:Heap)(x dx C:Addr)(mA:Str->Option Value):Prop where
 obj:h.get? x=some (PySem.W.instObj C dx)
 ns:h.Ns1 dx mA
 ne:dx≠x
theorem wK {h:Heap}{dx:Addr}{mA:Str->Option Value}(n:h.Ns1 dx mA):∃od,h.get? dx=some od/\∀name,PySem.W.lookIn name od=some (mA name):=by
 obtain⟨o,es,ep,ho,hd,hk,_,hm⟩:=n;refine⟨o,ho,λname=>?_⟩;have e:=hm name;unfold nsFind findBy at e;rw[←Array.find?_toList]at e;unfold PySem.W.lookIn;rw[hd];dsimp only;split
 ·rename_i y q;rw[q]at e;exact congrArg some e
 ·rename_i q;rw[q]at e;have a:es.toList.any (·.refKey)=false:=by
   rw[List.any_eq_false];intro y hy;obtain⟨z,t,CP⟩:=hk y (Array.mem_toList_iff.mp hy);simp[DictEntry.refKey,CP]
  have a':¬es.toList.any (·.refKey)=true:=by rw[a];exact uY
  rw[if_neg a'];exact congrArg some e
theorem CO.look (I:CO h x dx C mA):∃od,PySem.W.InstAt h x (PySem.W.instObj C dx) C (some od)/\∀name,PySem.W.lookIn name od=some (mA name) :=
 let ⟨od,ho,hl⟩:=wK I.ns
 ⟨od,⟨I.obj,rfl,rfl,ho⟩,hl⟩
section
variable {prog:Program}{w:World}{A:Around}{E:Value->Shared->Prop}{s:Shared}{K:Frag}{x dx C f:Addr}{mA:Str->Option Value}{name:Str}{v:Value}
theorem y4 (X:K.In s.heap)(I:CO s.heap x dx C mA)(hg:PySem.W.plainGet K C name=true)
  (hf:PySem.W.findIn K (.ref C) name=some (some (.ref f))) (ht:PySem.W.isFn K (.ref f)=true) (hv:mA name=none) (h:Q (.ref f,[.ref x]) s):
  wpAny (model prog w) A (getMethod (.ref x) name pl) Q E s:=by
 obtain⟨od,J,hl⟩:=I.look;exact PySem.W.method_fn X J (PySem.W.plainGet_of hg).1 (PySem.W.plainGet_of hg).2 hf (beq_iff_eq.mp ht) (by show(PySem.W.lookIn name od).map (·.isSome)=some false;rw[hl,hv];rfl) h
theorem Hb (X:K.In s.heap)(hm:PySem.W.makesIn K C=true)
  (hi:PySem.W.findIn K (.ref C) "__init__" = some (some (.ref f))) (hf:PySem.W.typeIn K (.ref f)=some (.type "function"))
  (h:codeAny (model prog w) (A.under (.builtin "type.__call__" ⟨.ref C::vs,kw⟩)) (.call (.ref f) ⟨.ref (s.heap.objs.size+1)::vs,kw⟩) (PySem.W.InitBack (s.heap.objs.size+1) R)
   { s with heap:=(s.heap.push PySem.W.emptyDict).push (PySem.W.instObj C s.heap.objs.size) }):
  codeAny (model prog w) A (.call (.ref C) ⟨vs,kw⟩) R s:=by
 obtain⟨hh,g,d,t,os⟩:=s;exact PySem.W.make_core (PySem.W.makes_of X hm) (PySem.W.looks_findIn X hi) (λself=>PySem.W.bind_fn X self hf) (.inl rfl) h
end
theorem nj.none_of (r:nj none o):o=none:=by
 cases o with
 |none=>rfl
 |some u=>exact(show False from r).elim
section
variable {P:Program}{w:World}{H H':Hp}{h h':Heap}{a C dx:Addr}{fs Ow:List (Str×V)}
theorem u6 (hok:j4 P w H h)(e:H a=some (.ins C dx fs)):∃mA,CO h a dx C mA/\(∀f,nj (fs.lookup f) (mA f))/\PySem.Within mA (fs.map (·.1))/\fs.length<=1000/\H dx=some (.own a):=by
 obtain⟨d,z,ne,ob,mA,n,r,q⟩:=(show br P w H h a (.ins C dx fs)from hok a _ e);exact⟨mA,⟨ob,n,ne⟩,r,q,z,d⟩
end
structure Cls (K:Frag)(C:Addr):Prop where
 pg:PySem.W.plainGet K C Str.empty=true
 hd:PySem.W.hasDictIn K C=true
 po:PySem.W.plainOver K C=true
 sa:PySem.W.findIn K (.ref C) "__setattr__" = some (some (.builtin "object.__setattr__"))
theorem Cls.get {K:Frag}{C:Addr}(c:Cls K C)(f:Str):PySem.W.plainGet K C f=true:=c.pg
def E1 (K:Frag)(C:Addr)(f:Str):Prop:=PySem.W.findIn K (.ref C) f=some none
structure Meth (K:Frag)(C:Addr)(m:Str)(f:Addr):Prop where
 at_:PySem.W.findIn K (.ref C) m=some (some (.ref f))
 fn:PySem.W.isFn K (.ref f)=true
 kp:PySem.W.keepIn K (.ref f)=true
section
variable {X:Cx}{aa:List (Addr×Obj)}{σ:St}{H:Hp}{s:Shared}{a C dx:Addr}{fs:List (Str×V)}{f:Str}{v:V}{A:Around}{E:Value->Shared->Prop}
theorem sU {m:Str}{g:Addr}{pl:Sem Bool}{Q:Value×List Value->Shared->Prop}(I:Inv X aa σ H s)(e:H a=some (.ins C dx fs))(c:Cls X.K C)(k:Meth X.K C m g)(l:fs.lookup m=none)
  (h:Q (.ref g,[.ref a]) s):wpAny (model X.prog X.w) A (getMethod (.ref a) m pl) Q E s:=by
 obtain⟨mA,O,r,_,_,_⟩:=u6 I.hok e;have hn:mA m=none:=nj.none_of (by rw[←l];exact r m);exact y4 I.kIn O (c.get m) k.at_ k.fn hn h
theorem Inv.made (I:Inv X aa σ H s):Inv X aa σ (upd (upd H s.heap.objs.size (.own (s.heap.objs.size+1))) (s.heap.objs.size+1) (.ins C s.heap.objs.size []))
  { s with heap:=(s.heap.push PySem.W.emptyDict).push (PySem.W.instObj C s.heap.objs.size) }:=by
 have e1:(s.heap.push PySem.W.emptyDict).get? s.heap.objs.size=some PySem.W.emptyDict:=vY s.heap rfl;have e2:((s.heap.push PySem.W.emptyDict).push (PySem.W.instObj C s.heap.objs.size)).get? (s.heap.objs.size+1)=some (PySem.W.instObj C s.heap.objs.size):=by
  have:=vY (s.heap.push PySem.W.emptyDict) (o:=PySem.W.instObj C s.heap.objs.size) rfl;rwa [Heap.size_push]at this
 have e3:(s.heap.push PySem.W.emptyDict).Ns s.heap.objs.size (λ_=>none):=⟨PySem.W.emptyDict,#[],_,e1,rfl,(λe he=>absurd he (by simp)),λ_=>rfl⟩;have I1:=I.laid (a:=s.heap.objs.size) (o:=.own (s.heap.objs.size+1)) (h':=s.heap.push PySem.W.emptyDict) (t':=s.toks) (λb u q=>vZ _ q) (vT _) ⟨_,e1⟩;refine I1.laid (a:=s.heap.objs.size+1) (o:=.ins C s.heap.objs.size []) (t':=s.toks) (λb u q=>vZ _ q) (Nat.le_of_eq (Heap.size_push _ _)) ?_;have ne:s.heap.objs.size≠s.heap.objs.size+1:=vS (Nat.lt_succ_self _);refine⟨by rw[a9 ne,ay],uM _,ne,e2,λ_=>none,(Heap.Ns1.of_empty e3).at λo q=>vZ _ q,λ_=>True.intro,λy hy=>absurd rfl hy⟩
end
def NH (K:Frag)(ta:TE)(f:Str):TE:=λσ H Q=>ta σ H λx H1=>∃a C dx fs v,x=.ref a/\H1 a=some (.ins C dx fs)/\Cls K C/\E1 K C f/\fs.lookup f=some v/\Q v H1
section
variable {X:Cx}{o e value:Expr}{f:Str}{pos FF Oz:Pos}{ta tv:TE}
theorem Dj {pl:Sem Bool}{m:Str}{dq:Pos}{args:List Expr}{aa:List (Addr×Obj)}{s:Shared}{σ:St}{H:Hp}{Q:Value->Shared->Prop}{te:TE}(he:PE X e te)(I:Inv X aa σ H s)
  (h:te σ H λx H1=>∃a C dx fs g,x=.ref a/\H1 a=some (.ins C dx fs)/\Cls X.K C/\Meth X.K C m g/\fs.lookup m=none /\
   ∀s1,Inv X aa σ H1 s1->wq X (callWith pos (.ref g) [.ref a] (backTo pos (starEach args X.env)) (backToKw pos (keywordEach [] X.env))) Q X.xe s1)
  (ht:eval (.Call (.Attribute e m dq) args [] pos) X.env=(do
   let ov ←eval e X.env
   standAt dq.atName
   let (f,first) ←holding [ov] (getMethod ov m pl)
   callWith pos f first (backTo pos (starEach args X.env)) (backToKw pos (keywordEach [] X.env)))):
  wq X (eval (.Call (.Attribute e m dq) args [] pos) X.env) Q X.xe s:=by
 refine PySem.W.methodCall_KW (pl:=pl) (bJ (he aa s σ H _ I h) λu s1 ⟨x,H1,I1,rx,a,C,dx,fs,g,ex,ea,c,k,l,q⟩=>?_) ht;subst ex;obtain rfl:u=Value.ref a:=rx;exact sU I1 ea c k l (q s1 I1)
end
section
variable {X:Cx}{aa:List (Addr×Obj)}{σ:St}{H:Hp}{s:Shared}{A:Around}{E:Value->Shared->Prop}{Q:Value->Shared->Prop}{c:Value}{b:Bool}
inductive TyOf (K:Frag)(H:Hp):V->Value->Prop where
 |non:TyOf K H .non (.type "NoneType")
 |bl (x:Bool):TyOf K H (.bl x) (.type "bool")
 |int (i:Int):TyOf K H (.int i) (.type "int")
 |str (x:Str):TyOf K H (.str x) (.type "str")
 |flt (x:UInt64):TyOf K H (.flt x) (.type "float")
 |lst {a:Addr}{xs:List V}(e:H a=some (.lst xs)):TyOf K H (.ref a) (.type "list")
 |frz {a:Addr}{o:Obj}{xs:List V}(e:H a=some (.frz o (.lst xs))):TyOf K H (.ref a) (.type "list")
 |tup {a:Addr}{xs:List V}(e:H a=some (.tup xs)):TyOf K H (.ref a) (.type "tuple")
 |dK {a:Addr}{aG:List (dL×V)}{ob:Obj}(e:H a=some (.dK aG ob)):TyOf K H (.ref a) (.type "dict")
 |dT {a:Addr}{aG:List (List dL×V)}(e:H a=some (.dT aG)):TyOf K H (.ref a) (.type "dict")
 |ins {a C dx:Addr}{fs:List (Str×V)}(e:H a=some (.ins C dx fs)) (cl:Cls K C) (ha:PySem.W.findIn K (.ref C) "__class__" = some (some (.builtin "object.__class__")))
   (hn:PySem.W.specialIn K (.builtin "object.__class__") "__get__" = some (some (.builtin "getset_descriptor.__get__"))) (Iz:PySem.W.takesIn K (.builtin "object.__class__")=some true)
   (hm:PySem.W.mroIn K C (.type "object")=some true):TyOf K H (.ref a) (.ref C)
theorem eU (I:Inv X aa σ H s)(rx:aK x u)(ty:TyOf X.K H x t)(e:PySem.W.kitOne X.K t c=some b)(h:∀tk,Q (.bool b) { s with toks:=tk }):
  wpAny (model X.prog X.w) A (call (.builtin "isinstance") [u,c]) Q E s:=by
 cases ty with
 |non=>cases (show u=Value.none from rx);exact kia_one PySem.W.kitx_none I.kIn True.intro e (λz=>nomatch z) h
 |bl y=>cases (show u=Value.bool y from rx);exact kia_one PySem.W.kitx_bool I.kIn True.intro e (λz=>nomatch z) h
 |int i=>obtain⟨t,q⟩:=(show ∃t,u=Value.int i t from rx);cases q;exact kia_one PySem.W.kitx_int I.kIn True.intro e (λz=>nomatch z) h
 |str y=>obtain⟨t,q⟩:=(show ∃t,u=Value.str y t from rx);cases q;exact kia_one PySem.W.kitx_str I.kIn True.intro e (λz=>nomatch z) h
 |flt y=>obtain⟨t,q⟩:=(show ∃t,u=Value.float y t from rx);cases q;exact kia_one PySem.W.kitx_float I.kIn True.intro e (λz=>nomatch z) h
 |@lst a xs ea=>
  cases (show u=Value.ref a from rx)
  obtain⟨_,_,n,_,h1⟩:=(show br X.prog X.w H s.heap a (.lst xs)from I.hok a _ ea);exact kia_one PySem.W.kitx_list I.kIn ⟨_,h1,rfl⟩ e (λz=>nomatch z) h
 |@frz a ob xs ea=>
  cases (show u=Value.ref a from rx)
  obtain⟨_,_,_,n,_,h1⟩:=(show br X.prog X.w H s.heap a (.frz ob (.lst xs))from I.hok a _ ea);exact kia_one PySem.W.kitx_list I.kIn ⟨_,h1,rfl⟩ e (λz=>nomatch z) h
 |@tup a xs ea=>
  cases (show u=Value.ref a from rx)
  obtain⟨_,_,_,p⟩:=(show br X.prog X.w H s.heap a (.tup xs)from I.hok a _ ea);obtain⟨o,h1,h2,_⟩:=p;exact kia_one PySem.W.kitx_tuple I.kIn ⟨o,h1,h2⟩ e (λz=>nomatch z) h
 |@dK a aG ob ea=>
  cases (show u=Value.ref a from rx)
  obtain⟨_,_,_,vs,_,p⟩:=(show br X.prog X.w H s.heap a (.dK aG ob)from I.hok a _ ea);obtain⟨o,es,ep,h1,h2,_⟩:=p;exact kia_one PySem.W.kitx_dict I.kIn ⟨o,h1,h2.1⟩ e (λz=>nomatch z) h
 |@dT a aG ea=>
  cases (show u=Value.ref a from rx)
  obtain⟨_,_,xs,_,o,es,ep,h1,h2,_⟩:=(show br X.prog X.w H s.heap a (.dT aG)from I.hok a _ ea);exact kia_one PySem.W.kitx_dict I.kIn ⟨o,h1,h2.1⟩ e (λz=>nomatch z) h
 |@ins a C dx fs ea cl ha hn Iz hm=>
  cases (show u=Value.ref a from rx)
  obtain⟨mA,O,_⟩:=u6 I.hok ea;obtain⟨od,J,_⟩:=O.look;exact kia_one (PySem.W.kitx_own (cl.get _) cl.hd ha hn Iz hm) I.kIn J e (λz=>nomatch z) h
end
structure eJ (k:Nat)(A:Around):Prop where
 hd:A.handled=none
 dp:A.depth+3*k+5<recursionLimit
 un:A.units+16*k+200<cLine
theorem eJ.mono (r:eJ k A)(h:j<=k):eJ j A:=⟨r.hd,by have:=r.dp;omega,by have:=r.un;omega⟩
theorem eJ.deeper (r:eJ (k+1) A)(env:Env):eJ k (A.deeper env) :=
 ⟨r.hd,by have:=r.dp;show A.depth+1+3*k+5<_;omega,by have:=r.un;show A.units+3+16*k+200<_;omega⟩
theorem eJ.depth (r:eJ k A):A.depth<recursionLimit:=by have:=r.dp;omega
def Hd:TA:=λ_ H Q=>Q [] H
def Dk (ta:TE)(tr:TA):TA:=λσ H Q=>ta σ H λx H1=>tr σ H1 λxs H2=>Q (x::xs) H2
section
variable {X:Cx}{e:Expr}{es:List Expr}{te:TE}{t:TA}{pos:Pos}
theorem gG:PA X [] Hd:=λ_ _ _ _ H Q I h=>Calls.spliced_nil ⟨[],H,I,.nil,h⟩
theorem eN (ha:PE X e te)(hr:PA X es t)(hs:starEach (e::es) X.env=(false,eval e X.env)::starEach es X.env:=by rfl):PA X (e::es) (Dk te t):=by
 intro pos aa s σ H Q I h;rw[hs];show wpAny _ _ (spliced ((false,eval e X.env)::backTo pos (starEach es X.env))) _ _ s;refine Calls.spliced_cons (bJ (ha aa s σ H _ I h) λu s1 ⟨x,H1,I1,r1,q1⟩=>?_);exact bJ (hr pos aa s1 σ H1 _ I1 q1) λus s2 ⟨xs,H2,I2,r2,q2⟩=>⟨x::xs,H2,I2,.cons r1 r2,q2⟩
def Kg (t:TA):TE:=λσ H Q=>t σ H λxs H1=>xs.length<=sizeLine/\∀p,H1 p=none->Q (.ref p) (upd H1 p (.tup xs))
def Kh (t:TA):TE:=λσ H Q=>t σ H λxs H1=>xs.length<=sizeLine/\∀p,H1 p=none->Q (.ref p) (upd H1 p (.lst xs))
theorem E2 {x1}(h:PA X es t):PE X (.Tuple es x1 pos) (Kg t):=by
 intro aa s σ H Q I hq;refine wpAny_Tuple_spliced (bJ (h pos aa s σ H _ I hq) λus s1 ⟨xs,H1,I1,r,z,q⟩=>⟨by rw[←r.length];exact z,?_⟩);have hf:H1 s1.heap.objs.size=none:=I1.hok.fresh (vT _);refine⟨.ref s1.heap.objs.size,upd H1 s1.heap.objs.size (.tup xs),I1.laid (t':=s1.toks) (λb u e=>vZ _ e) (vT _) ?_,rfl,q _ hf⟩;exact⟨z,us,r,⟨_,vY _ rfl,rfl,_,rfl⟩⟩
theorem E3 (h:PA X es t):PE X (.List es pos) (Kh t):=by
 intro aa s σ H Q I hq;refine wpAny_List_spliced (bJ (h pos aa s σ H _ I hq) λus s1 ⟨xs,H1,I1,r,z,q⟩=>⟨by rw[←r.length];exact z,?_⟩);have hf:H1 s1.heap.objs.size=none:=I1.hok.fresh (vT _);refine⟨.ref s1.heap.objs.size,upd H1 s1.heap.objs.size (.lst xs),I1.laid (t':=s1.toks) (λb u e=>vZ _ e) (vT _) ?_,rfl,q _ hf⟩;exact⟨z,us,0,r,vY _ rfl⟩
end
abbrev Sp:=List V->Hp->VK->XK->Prop
abbrev Bp:=List Env->Hp->Shared->XK->Value->Shared->Prop
structure Env0 (P:Program)(w:World)(K:Frag)(mg:Str->Option Value)(base:Heap)(A:Around)(outer:List Env)(s:Shared)(H:Hp):Prop where
 frames:A.frames=some outer
 mod:Mod K mg base
 bs:∀b o,base.get? b=some o->s.heap.get? b=some o/\H b=none
 bsz:base.objs.size<=s.heap.objs.size
 funs:s.heap.FunFrames base outer
 frf:∀b∈yj outer,H b=none
 hok:j4 P w H s.heap
 bare:AllBare s.gens
def CE (outer:List Env)(P:Program)(w:World)(H:Hp)(s:Shared)(Q:VK)(u:Value)(s':Shared):Prop :=
 ∃v H',s'.os=s.os/\AllBare s'.gens/\Un (yj outer) [] H H' s.heap s'.heap/\j4 P w H' s'.heap/\aK v u/\Q v H'
def CR (CX:Bp)(outer:List Env)(P:Program)(w:World)(H:Hp)(s:Shared)(Q:VK)(E:XK)(r:Result)(s':Shared):Prop :=
 match r with
 |.ok (.ret u)=>CE outer P w H s Q u s'
 |.ok _=>False
 |.error e=>CX outer H s E e s'
structure ke (P:Program)(w:World)(K:Frag)(mg:Str->Option Value)(base:Heap)(CX:Bp)(k:Nat)(f:Addr)(fd:FuncData)(ps:List Str)(sp:Sp):Prop where
 len:∀vs H Q E,sp vs H Q E->vs.length=ps.length
 run:∀(A:Around)(outer:List Env)(s:Shared)(H:Hp)(args:Args)(us:List Value)(vs:List V)(Q:VK)(E:XK),eJ k A->Env0 P w K mg base A outer s H->BindsTo s fd args (ps.zip us)->aP vs us->sp vs H Q E ->
  codeAny (model P w) A (.call (.ref f) args) (CR CX outer P w H s Q E) s
theorem ke.imp {P:Program}{w:World}{K:Frag}{mg:Str->Option Value}{base:Heap}{CX:Bp}{k:Nat}{f:Addr}{fd:FuncData}{ps:List Str}{sp M3:Sp}(F:ke P w K mg base CX k f fd ps sp)
  (h:∀vs H Q E,M3 vs H Q E->sp vs H Q E):ke P w K mg base CX k f fd ps M3 :=
 ⟨λvs H Q E q=>F.len vs H Q E (h _ _ _ _ q),λA outer s H args us vs Q E hr he hb hv hs=>F.run A outer s H args us vs Q E hr he hb hv (h _ _ _ _ hs)⟩
section
variable {X:Cx}{aa:List (Addr×Obj)}{σ:St}{H:Hp}{s s':Shared}
theorem Inv.env0 (I:Inv X aa σ H s):Env0 X.prog X.w X.K X.mg X.base X.A X.stack s H :=
 ⟨I.ok.frames,I.ok.mod,I.bs,vR I.ok.bsz I.sz,I.stack,I.stkFree,I.hok,I.bare⟩
theorem Inv.after (I:Inv X aa σ H s)(h:CE X.stack X.prog X.w H s Q u s'):EP X aa σ Q u s':=by
 obtain⟨v,H',os,bare,un,hok,r,q⟩:=h;obtain⟨hh,g,d,t,KW⟩:=s';obtain rfl:KW=s.os:=os;exact⟨v,H',I.call (h':=hh) (g':=g) (d':=d) (t':=t) (ch:=[]) un hok bare (λb z=>absurd z (by simp)),r,q⟩
end
def He (sp:Sp)(yq:List V)(E:XK)(t:TA):TE:=λσ H Q=>t σ H λvs H1=>sp (vs++yq) H1 Q E
def Me (C:Addr)(m:Str)(sp:Sp)(yq:List V)(E:XK)(ta:TE)(t:TA):TE:=λσ H Q=>ta σ H λx H1=>∃a dx fs,x=.ref a/\H1 a=some (.ins C dx fs)/\fs.lookup m=none /\
 t σ H1 λvs H2=>sp (x::(vs++yq)) H2 Q E
def Mf (C:Addr)(sp:Sp)(yq:List V)(E:XK)(t:TA):TE:=λσ H Q=>t σ H λvs H1=>∀x dx,H1 x=none->H1 dx=none->dx≠x ->
 sp (.ref x::(vs++yq)) (upd (upd H1 dx (.own x)) x (.ins C dx [])) (λv H2=>v=.non/\Q (.ref x) H2) E
def kN (K:Frag)(fd:FuncData)(ps:List Str)(ds:List Value):Prop :=
 ∀(s:Shared)(us:List Value),K.In s.heap->(us++ds).length=ps.length->BindsTo s fd ⟨us,[]⟩ (ps.zip (us++ds))
theorem kN.all {K:Frag}{fd:FuncData}{ps:List Str}(h:∀us:List Value,us.length=ps.length->bindArgs fd ⟨us,[]⟩=pure (ps.zip us)):kN K fd ps []:=λs us _ hl=>by
 rw[uQ]at hl ⊢;exact .of_eq (h us hl)
def sV (CX:Bp)(X:Cx)(E:XK):Prop:=∀(aa:List (Addr×Obj))(σ:St)(H:Hp)(s:Shared)(e:Value)(s':Shared),Inv X aa σ H s->CX X.stack H s E e s'->X.xe e s'
section
variable {X:Cx}{CX:Bp}{k:Nat}{f C:Addr}{fd:FuncData}{ps:List Str}{sp:Sp}{yq:List V}{ds:List Value}{E:XK}{x m:Str}{p pos dq:Pos}{e o:Expr}{es:List Expr}{ta:TE}{t:TA}
theorem E6 {aa:List (Addr×Obj)}{σ:St}{H:Hp}{s:Shared}{Q:VK}{us:List Value}{vs:List V}(F:ke X.prog X.w X.K X.mg X.base CX k f fd ps sp)(hr:eJ k X.A)(hb:kN X.K fd ps ds)(hd:aP yq ds)(hx:sV CX X E)
  (I:Inv X aa σ H s) (r:aP vs us) (h:sp (vs++yq) H Q E):wq X (call (.ref f) us) (EP X aa σ Q) X.xe s:=by
 have r2:aP (vs++yq) (us++ds):=r.append hd;have hl:(us++ds).length=ps.length:=by rw[←r2.length];exact F.len _ _ _ _ h
 refine wpAny_call (codeAny_mono (F.run X.A X.stack s H ⟨us,[]⟩ (us++ds) (vs++yq) Q E hr I.env0 (hb s us I.kIn hl) r2 h) λr s' hq=>?_);cases r with
 |error e=>exact hx aa σ H s e s' I hq
 |ok fl=>
  cases fl with
  |ret u=>exact I.after hq
  |next=>exact False.elim hq
  |brk=>exact False.elim hq
  |cont=>exact False.elim hq
theorem Bq (F:ke X.prog X.w X.K X.mg X.base CX k f fd ps sp)(hr:eJ k X.A)(hg:Gl X x)(hm:X.mg x=some (.ref f))(hk:PySem.W.keepIn X.K (.ref f)=true)(hb:kN X.K fd ps ds)(hd:aP yq ds)(hx:sV CX X E)
  (ha:PA X (e::es) t) (sI:(x == ("__debug__" : Str))=false:=by decide) (he:starEach (e::es) X.env=(false,eval e X.env)::starEach es X.env:=by rfl) (ng:(backTo pos (starEach es X.env)).any (·.1)=false:=by rfl):
  PE X (.Call (.Name x p) (e::es) [] pos) (He sp yq E t):=by
 intro aa s σ H Q I h;refine wpAny_Call_Name_kw (ux I hg hm ?_ sI);refine PySem.W.callWith_K (h₀:=X.base) I.ok.mod.kin hk (bJ (ha pos aa s σ H _ I h) λus s1 ⟨vs,H1,I1,r,q⟩=>⟨I1.kIn,?_⟩) he ng;exact E6 F hr hb hd hx I1 r q
end
structure FnScope (N P:List Str)(sc:Scope):Prop where
 kind:sc.kind=.function
 co:sc.isCoroutine=false
 gen:sc.isGenerator=false
 nd:N.Nodup
 pre:N.take P.length=P
 par:∀x∈P,sc.names.lookup x=some .local∨sc.names.lookup x=some .cell
 nofree:∀y∈sc.names,y.2≠.free
theorem nL {kindOf:Str->Option NameKind}{x:Str}:∀ {binds:List (Str×Value)}{m:Str->Option Value},(∀v,(x,v)∉binds)->bindL kindOf binds m x=m x
 |[],_,_=>rfl
 | (n,v)::r,m,h=>by
  unfold bindL;rw[nL λw hw=>h w (mZ _ hw)];split
  ·have:x≠n:=by rintro rfl;exact h v mX
   simp[this]
  ·rfl
theorem nM {kindOf:Str->Option NameKind}{x:Str}:∀ {binds:List (Str×Value)}{m:Str->Option Value},(∀v,(x,v)∉binds)->bindC kindOf binds m x=m x
 |[],_,_=>rfl
 | (n,v)::r,m,h=>by
  unfold bindC;rw[nM λw hw=>h w (mZ _ hw)];split
  ·rfl
  ·have:x≠n:=by rintro rfl;exact h v mX
   simp[this]
theorem nN {kindOf:Str->Option NameKind}{x:Str}{v:Value}:∀ {P:List Str}{vs:List Value}{i:Nat}{m:Str->Option Value},P.Nodup->P[i]? = some x->vs[i]? = some v->kindOf x=some .local ->
  bindL kindOf (P.zip vs) m x=some v
 |[],_,_,_,_,h,_,_=>by simp at h
 |_::_,[],_,_,_,_,h,_=>by simp at h
 |p::P,w::vs,0,m,nd,h1,h2,hk=>by
  simp at h1 h2;subst h1;subst h2;show bindL kindOf ((p,w)::P.zip vs) m p=_;unfold bindL;rw[nL λv hv=>(List.nodup_cons.mp nd).1 (List.of_mem_zip hv).1,if_pos hk];simp
 |p::P,w::vs,i+1,m,nd,h1,h2,hk=>by
  show bindL kindOf ((p,w)::P.zip vs) m x=_;unfold bindL;exact nN (i:=i) (List.nodup_cons.mp nd).2 (by simpa using h1) (by simpa using h2) hk
theorem nO {kindOf:Str->Option NameKind}{x:Str}{v:Value}:∀ {P:List Str}{vs:List Value}{i:Nat}{m:Str->Option Value},P.Nodup->P[i]? = some x->vs[i]? = some v->kindOf x≠some .local ->
  bindC kindOf (P.zip vs) m x=some v
 |[],_,_,_,_,h,_,_=>by simp at h
 |_::_,[],_,_,_,_,h,_=>by simp at h
 |p::P,w::vs,0,m,nd,h1,h2,hk=>by
  simp at h1 h2;subst h1;subst h2;show bindC kindOf ((p,w)::P.zip vs) m p=_;unfold bindC;rw[nM λv hv=>(List.nodup_cons.mp nd).1 (List.of_mem_zip hv).1,if_neg hk];simp
 |p::P,w::vs,i+1,m,nd,h1,h2,hk=>by
  show bindC kindOf ((p,w)::P.zip vs) m x=_;unfold bindC;exact nO (i:=i) (List.nodup_cons.mp nd).2 (by simpa using h1) (by simpa using h2) hk
noncomputable def gY (N:List Str)(vs:List V):St:=vs.map some++List.replicate (N.length - vs.length) none
noncomputable def lh (CX:Bp)(P:Program)(w:World)(K:Frag)(mg:Str->Option Value)(base:Heap)(N:List Str)(qual:Str)(scope:Scope)(f:Addr)(cd:Value)(A:Around)(outer:List Env)(s:Shared)(H:Hp)(E:XK):Cx where
 prog:=P
 w:=w
 K:=K
 mg:=mg
 base:=base
 A:=A.deeper (envOfC qual scope s.heap.objs.size f cd)
 N:=N
 s₀:=s
 H₀:=H
 env:=envOfC qual scope s.heap.objs.size f cd
 outer:=outer
 stack:=envOfC qual scope s.heap.objs.size f cd::outer
 ex:=[]
 calm:=true
 fn:=λ_=>true
 pn:=[]
 xe:=λe s'=>wpAny (model P w) (A.deeper (envOfC qual scope s.heap.objs.size f cd)) (leaving (envOfC qual scope s.heap.objs.size f cd) e) (λ_ I0=>CX outer H s E e I0) (λe' I0=>CX outer H s E e' I0) s'
theorem qB {sc:Scope}{n:Nat}{x:Str}(h:sc.names.lookup x=some .cell):∃c,(cellsFrom n sc.names []).lookup x=some c:=by
 have q:=PySem.W.cellsFrom_some sc.names n [] (.inl h);exact Option.isSome_iff_exists.mp q
theorem wL {CX:Bp}{P:Program}{w:World}{K:Frag}{mg:Str->Option Value}{base:Heap}{N ps:List Str}{qual:Str}{scope:Scope}{f:Addr}{cd:Value}{A:Around}{outer:List Env}{s s1:Shared}{H:Hp}{E:XK}{us:List Value}{vs:List V}
  (S:FnScope N ps scope) (hd:A.handled=none) (e0:Env0 P w K mg base A outer s H) (hl:vs.length=ps.length) (r:aP vs us)
  (x:InCallC s s.heap.objs.size (bindL (envOfC qual scope s.heap.objs.size f cd).kindOf (ps.zip us) λ_=>none) (cellsFrom (s.heap.objs.size+1) scope.names []) (bindC (envOfC qual scope s.heap.objs.size f cd).kindOf (ps.zip us) λ_=>none) s1):
  Inv (lh CX P w K mg base N qual scope f cd A outer s H E) [] (gY N vs) H s1:=by
 have ng:ps.length<=N.length:=by have:=congrArg List.length S.pre;rw[List.length_take]at this;omega
 obtain⟨h1,tk,rfl,hk⟩:=x.done;have IA:∀b:Addr,b∉(lh CX P w K mg base N qual scope f cd A outer s H E).ex:=λb z=>absurd (show b∈([]:List Addr)from z) (by simp);refine⟨⟨e0.mod,S.kind,rfl,rfl,vT _,λy z c h1 h2=>?_,λy hy=>?_,λy c _ h=>?_,λ_=>hd,Around.frames_deeper e0.frames,.inr ⟨rfl,rfl⟩,λb z=>absurd z (IA b),e0.bs,e0.bsz,λb _ _=>IA b,λb z=>absurd z (IA b),e0.funs,e0.frf⟩,
  rfl,e0.bare,Un.kept hk,⟨_,x.toInCall.ns,λi y v h1 h2 h3=>?_⟩,λy c h=>⟨_,x.cell y c h⟩,e0.hok.fresh (vT _),λy c h=>?_,λp hp=>absurd (show p∈([]:List (Addr×Obj))from hp) (by simp),e0.hok.kept hk,?_⟩
 ·exact name_of_addr x.apart (PySem.mem_of_lookup h1) (PySem.mem_of_lookup h2)
 ·have hy:scope.names.lookup y=some .cell∨scope.names.lookup y=some .free:=hy;rcases hy with hy|hy
  ·exact qB hy
  ·exact absurd rfl (S.nofree _ (PySem.mem_of_lookup hy))
 ·exact Nat.le_of_lt (x.above y c (PySem.mem_of_lookup h))
 ·have hi:i<vs.length:=by
   unfold gY at h2;by_cases hi:i<vs.length
   ·exact hi
   ·rw[List.getElem?_append_right (by simpa using hi)]at h2;rw[List.getElem?_replicate]at h2;split at h2<;>cases h2
  have ha:vs[i]? = some v:=by
   unfold gY at h2;rw[List.getElem?_append_left (by simpa using hi),vB]at h2;cases e:vs[i]? with
   |none=>rw[e]at h2;cases h2
   |some a=>rw[e]at h2;cases h2;rfl
  obtain⟨u,hu,rv⟩:=r.get ha;have hp:ps[i]? = some y:=by
   rw[←S.pre,List.getElem?_take_of_lt (by omega)];exact h1
  have M4:ps.Nodup:=by rw[←S.pre];exact S.nd.sublist (List.take_sublist _ _)
  refine⟨u,rv,?_⟩;rcases S.par y (List.mem_of_getElem? hp)with k|k
  ·exact .inl ⟨k,nN M4 hp hu k⟩
  ·obtain⟨c,e⟩:=qB (n:=s.heap.objs.size+1) k;refine .inr ⟨.inl k,c,e,?_⟩;have q:=x.cell y c e;rw[nO M4 hp hu (by show scope.names.lookup y≠_;rw[k];decide)]at q;exact q
 ·exact e0.hok.fresh (Nat.le_of_lt (x.above y c (PySem.mem_of_lookup h)))
 ·unfold gY;show _=N.length;rw[vA,vI,List.length_replicate];omega
theorem Dl {CX:Bp}{P:Program}{w:World}{K:Frag}{mg:Str->Option Value}{base:Heap}{k:Nat}{f:Addr}{name qual:Str}{params:Arguments}{body:List Stmt}{scope:Scope}{dV kV doc pm de ct oc:Value}{an od:Option Addr}
  {ni:Array (Option Value)}{N ps:List Str}{sp:Sp}(lk:K.lookup f=some ⟨oc,od,.func (fnOf name qual params body scope dV kV doc pm an de ct),ni⟩) (lB:PySem.W.codeIn K de qual=true) (S:FnScope N ps scope)
  (len:∀vs H Q E,sp vs H Q E->vs.length=ps.length)
  (AB:∀(A:Around)(outer:List Env)(s:Shared)(H:Hp)(vs:List V)(Q:VK)(E:XK),eJ k (A.deeper (envOfC qual scope s.heap.objs.size f de))->sp vs H Q E ->
   ∃t,pv (lh CX P w K mg base N qual scope f de A outer s H E) body t/\t { nx:=λ_ H'=>Q .non H',rt:=Q } (gY N vs) H):
  ke P w K mg base CX (k+1) f (fnOf name qual params body scope dV kV doc pm an de ct) ps sp:=by
 refine⟨len,λA outer s H args us vs Q E hr e0 hb r Gy=>?_⟩;have hl:=len _ _ _ _ Gy;have KX:K.In s.heap:=e0.mod.kin.keeps λb o e=>(e0.bs b o e).1;have O0:s.heap.NoLimit:=e0.mod.nolimit.keeps λb o e=>(e0.bs b o e).1;have IB:∀y∈ps.zip us,scope.names.lookup y.1=some .local∨(scope.names.lookup y.1=some .cell/\((cellsFrom (s.heap.objs.size+1) scope.names []).lookup y.1).isSome=true):=λ⟨n,v⟩ hy=>by
  rcases S.par n (List.of_mem_zip hy).1 with q|q
  ·exact .inl q
  ·exact .inr ⟨q,PySem.W.cellsFrom_some _ _ _ (.inl q)⟩
 refine codeAny_call_function hr.depth (KX _ _ lk) rfl S.co S.gen rfl (PySem.W.codeRec_of KX lB) (hb _ _ _ _ ?_);refine wpAny_newFunctionEnv_cells S.kind IB λenv he s1 x=>?_;subst he;refine⟨O0.keeps x.toInCall.keep,codeAny_func ?_⟩;obtain⟨t,ht,hq⟩:=AB A outer s H vs Q E (hr.deeper _) Gy;have I:Inv (lh CX P w K mg base N qual scope f de A outer s H E) [] (gY N vs) H s1:=wL S hr.hd e0 hl r x;refine wpAny_mono (ht [] s1 (gY N vs) H _ I hq) (λfl s' hs=>?_) λe s' hs=>hs;have hW:∀ {σ':St}{H':Hp}{v:V}{u:Value},Inv (lh CX P w K mg base N qual scope f de A outer s H E) [] σ' H' s'->aK v u->Q v H'->CE outer P w H s Q u s' :=
  λ{σ' H' v u} J rv q=>⟨v,H',J.os,J.bare,J.base,J.hok,rv,q⟩
 cases fl with
 |ret u=>
  obtain⟨v,σ',H',J,rv,q⟩:=hs;exact hW J rv q
 |next=>
  obtain⟨σ',H',J,q⟩:=hs;exact hW (v:=V.non) (u:=Value.none) J rfl q
 |brk=>
  obtain⟨_,_,_,q⟩:=hs;exact False.elim q
 |cont=>
  obtain⟨_,_,_,q⟩:=hs;exact False.elim q
section
variable {X:Cx}{x:Str}{p pos:Pos}{e:Expr}{es:List Expr}{t:TA}{id T:String}{r:List V->Hp->VK->Prop}
def Mg (r:List V->Hp->VK->Prop)(t:TA):TE:=λσ H Q=>t σ H λvs H1=>r vs H1 Q
theorem lI (hc:bG X (.builtin id) r)(hg:Gl X x)(hm:X.mg x=none)(hv:bootBuiltins x=some (.builtin id))(ha:PA X (e::es) t)(hn:x ≠ "__name__":=by decide)(sI:(x == ("__debug__" : Str))=false:=by decide)
  (he:starEach (e::es) X.env=(false,eval e X.env)::starEach es X.env:=by rfl) (ng:(backTo pos (starEach es X.env)).any (·.1)=false:=by rfl):PE X (.Call (.Name x p) (e::es) [] pos) (Mg r t):=by
 intro aa s σ H Q I h;refine wpAny_Call_Name_kw (fT I hg hm hv ?_ hn sI);exact PyProof.Rows.callWith_builtin1 (bJ (ha pos aa s σ H _ I h) λus s1 ⟨vs,H1,I1,r1,q1⟩=>hc aa s1 σ H1 vs us Q I1 r1 q1) he ng
theorem ko (hc:bG X (.type T) r)(hg:Gl X x)(hm:X.mg x=none)(hv:bootBuiltins x=some (.type T))(ha:PA X (e::es) t)(hn:x ≠ "__name__":=by decide)(sI:(x == ("__debug__" : Str))=false:=by decide)
  (he:starEach (e::es) X.env=(false,eval e X.env)::starEach es X.env:=by rfl) (ng:(backTo pos (starEach es X.env)).any (·.1)=false:=by rfl):PE X (.Call (.Name x p) (e::es) [] pos) (Mg r t):=by
 intro aa s σ H Q I h;refine wpAny_Call_Name_kw (fT I hg hm hv ?_ hn sI);exact PyProof.Rows.callWith_type1 (bJ (ha pos aa s σ H _ I h) λus s1 ⟨vs,H1,I1,r1,q1⟩=>hc aa s1 σ H1 vs us Q I1 r1 q1) he ng
end
end L2
namespace HT
open PySem PyProof.Rows
section
open PySem.SeqAt
open PySem.AutoSeq1 (wpAny_loadPart')
open PySem.MeetsSeq PySem.MeetsSeq2 PySem.MeetsSeq3
end
section
variable {prog:Program}{w:World}{A:Around}{E:Value->Shared->Prop}{s:Shared}
theorem Br (ht:IsTup s.heap t vs.toArray)(hb:IsTup s.heap b ws.toArray)(hv:vs≠[])
  (h1:ws=[]->Q (.ref t) s) (h2:ws≠[]->Q (.ref s.heap.objs.size) { s with heap:=s.heap.push { cls:=.type "tuple",data:=.seq (vs++ws).toArray } })
  (hsz:vs.length+ws.length<=sizeLine):wpAny (model prog w) A (binaryOp .Add (.ref t) (.ref b)) Q E s:=by
 obtain⟨⟨cls,dd,data,sl⟩,ho,hc,n,hd⟩:=id ht;obtain⟨⟨O1,M5,data2,M6⟩,Gz,IC,n2,M7⟩:=id hb;simp only at hc hd IC M7;subst hc hd IC M7;have e:vs.toArray++ws.toArray=(vs++ws).toArray:=by simp
 by_cases hw:ws=[]
 ·exact concat_meets ⟨_,ho,rfl⟩ ⟨_,Gz,rfl⟩ noFill_tuple_add seq_tuple_add PySem.F.slot_tuple_add PySem.F.entry_tuple_add (PySem.F.args_tuple_add_2 _ _)
   (tuple_addW1 t b vs.toArray ws.toArray n n2 dd M5 sl M6 (by simpa using hv) (by simp[hw])) ⟨ho,Gz,h1 hw⟩
 ·refine concat_meets ⟨_,ho,rfl⟩ ⟨_,Gz,rfl⟩ noFill_tuple_add seq_tuple_add PySem.F.slot_tuple_add PySem.F.entry_tuple_add (PySem.F.args_tuple_add_2 _ _)
   (tuple_addW2 t b vs.toArray ws.toArray n n2 dd M5 sl M6 (by simpa using hv) (by simpa using hw) (by rw[vH,vH];exact hsz)) ⟨ho,Gz,?_⟩
  rw[e];exact h2 hw
noncomputable def cM (n d:Nat):Option Int->Nat
 |none=>d
 |some v=>if v<0 then (v+(n:Int)).toNat else min v.toNat n
theorem y6 (n d:Nat):cM n d none=d:=rfl
theorem Bs (n d k:Nat):cM n d (some (k:Int))=min k n:=by
 show(if(k:Int)<0 then ((k:Int)+(n:Int)).toNat else min (k:Int).toNat n)=min k n;rw[if_neg (by omega),Int.toNat_natCast]
theorem E7 (n d:Nat)(hd:d<=n)(o:Option Int):cM n d o<=n:=by
 cases o with
 |none=>exact hd
 |some v=>
  show(if v<0 then (v+(n:Int)).toNat else min v.toNat n)<=n;by_cases hv:v<0
  ·rw[if_pos hv];omega
  ·rw[if_neg hv];exact Nat.min_le_right _ _
theorem u7 (v:Int)(n d:Nat):(if v<0 then max (v+(n:Int)) 0 else min v (n:Int))=((cM n d (some v):Nat):Int):=by
 show(if v<0 then max (v+(n:Int)) 0 else min v (n:Int))=(((if v<0 then (v+(n:Int)).toNat else min v.toNat n):Nat):Int);by_cases hv:v<0
 ·simp only[if_pos hv];omega
 ·simp only[if_neg hv];omega
theorem sW (lo hi:Option Int)(n:Nat):Builtin.Slice.sliceAdjust lo hi 1 (n:Int)=(((cM n 0 lo:Nat):Int),((cM n n hi:Nat):Int)):=by
 have h1:¬((1:Int)<0):=by omega
 unfold Builtin.Slice.sliceAdjust;simp only[h1,if_false];refine Prod.ext ?_ ?_
 ·cases lo with
  |none=>rfl
  |some v=>exact u7 v n 0
 ·cases hi with
  |none=>rfl
  |some v=>exact u7 v n n
theorem sX (i j:Nat):Builtin.Slice.slicePlaces (i:Int) (j:Int) 1=j - i:=by
 unfold Builtin.Slice.slicePlaces;have h1:(1:Int) > 0:=by omega
 simp only[h1,if_true,Int.ediv_one];split<;>omega
theorem lJ (p:IsPart v o)(h:Q o s):wpAny (model prog w) A (Builtin.Slice.slicePartIndex v) Q E s:=by
 cases p with
 |none=>exact slicePart_none h
 |int i t=>exact slicePart_int h
theorem gj {sl:Addr}{vl vu:Value}{lo hi:Option Int}{n:Nat}{Q:Int×Int×Nat->Shared->Prop}(hs:s.heap.IsSliceOf sl vl vu .none)(pl:IsPart vl lo)(pu:IsPart vu hi)
  (h:Q (((cM n 0 lo:Nat):Int),1,cM n n hi - cM n 0 lo) s):wpAny (model prog w) A (Builtin.Slice.sliceApplied (.ref sl) (pure (n:Int))) Q E s:=by
 obtain⟨os,CQ,J4,FJ⟩:=id hs;unfold Builtin.Slice.sliceApplied Builtin.Slice.sliceFields;refine wX (wX (wpAny_field CQ FJ (x:=vl) rfl (wX (wpAny_field CQ FJ (x:=vu) rfl (wX (wpAny_field CQ FJ (x:=.none) rfl (wY ?_)))))));refine wX (slicePart_none ?_);show wpAny _ _ (if((1:Int) == 0)=true then _ else _) _ _ s;rw[if_neg (by decide)];refine wX (lJ pl (wX (lJ pu (wX (wY ?_)))));show wpAny _ _ (match Builtin.Slice.sliceAdjust lo hi 1 (n:Int) with|(lo,hi)=>pure (lo,(1:Int),Builtin.Slice.slicePlaces lo hi 1)) _ _ s;rw[sW lo hi n];show wpAny _ _ (pure (((cM n 0 lo:Nat):Int),(1:Int),Builtin.Slice.slicePlaces ((cM n 0 lo:Nat):Int) ((cM n n hi:Nat):Int) 1)) _ _ s;rw[sX];exact wY h
theorem y7 (xs:Array Value)(i k:Nat):((List.range k).filterMap λ(m:Nat)=>xs[((i:Int)+(m:Int)*1).toNat]?).toArray=((xs.toList.drop i).take k).toArray:=by
 have e:(λ(m:Nat)=>xs[((i:Int)+(m:Int)*1).toNat]?)=λm=>xs[i+m]?:=by
  funext m;have:((i:Int)+(m:Int)*1).toNat=i+m:=by omega
  rw[this]
 rw[e];have:=pick_run xs i k;rw[List.filterMap_map]at this;have e2:((λx=>xs[x]?) ∘ λx=>i+x)=λm=>xs[i+m]?:=rfl;rw[e2]at this;rw[this]
theorem j6 {t sl:Addr}{au:Array Value}{vl vu:Value}{lo hi:Option Int}{Q:Value->Shared->Prop}(ht:IsTup s.heap t au)(hs:s.heap.IsSliceOf sl vl vu .none)(pl:IsPart vl lo)(pu:IsPart vu hi)
  (hw:¬(cM au.size 0 lo=0/\cM au.size au.size hi=au.size))
  (h:Q (.ref s.heap.objs.size) { s with heap:=s.heap.push { cls:=.type "tuple",data:=.seq ((au.toList.drop (cM au.size 0 lo)).take (cM au.size au.size hi - cM au.size 0 lo)).toArray } })
  (hsz:au.size<=sizeLine):wpAny (model prog w) A (getItem (.ref t) (.ref sl)) Q E s:=by
 have wv:sizeOk (.seq ((au.toList.drop (cM au.size 0 lo)).take (cM au.size au.size hi - cM au.size 0 lo)).toArray):=by
  show((au.toList.drop (cM au.size 0 lo)).take (cM au.size au.size hi - cM au.size 0 lo)).toArray.size<=sizeLine
  rw[vH,List.length_take,List.length_drop,vG]
  omega
 have hj:cM au.size au.size hi<=au.size:=E7 _ _ (vT _) hi
 obtain⟨os,CQ,J4,FJ⟩:=id hs
 have O2:s.TypeIs (.ref sl) "slice":=⟨os,CQ,J4⟩
 unfold getItem
 try with_reducible refine wpAny_holding ?_
 first|refine wX (wY ?_)|skip
 refine wX (wpAny_sequenceKey ht.typeIs (by decide) ?_)
 refine wX (wpAny_callSpecial?_slot (name:=Str.ofString "__getitem__") ht.typeIs PyProof.Rows.slot_tuple_getitem
  (wpAny_call_entry PyProof.Rows.slot_tuple_getitem ht.typeIs entry_tuple_getitem ?_ (args_tuple_getitem _ _)))
 show wpAny _ _ (Builtin.Tuple.tupleItemsOf (.ref t)>>=_) _ _ s
 refine wX (tupleItemsOf_ ht ?_)
 refine wX (wpAny_typeOf O2 ?_)
 rw[if_pos (by decide)]
 refine wX (gj hs pl pu ?_)
 have G0:¬((((cM au.size 0 lo:Nat):Int) == 0 && (1:Int) == 1 && (cM au.size au.size hi - cM au.size 0 lo) == au.size)=true):=by
  intro q
  rw[vD,vD]at q
  have q1:((cM au.size 0 lo:Nat):Int)=0:=eq_of_beq q.1.1
  have q2:cM au.size au.size hi - cM au.size 0 lo=au.size:=eq_of_beq q.2
  exact hw ⟨by omega,by omega⟩
 show wpAny _ _ (if(((cM au.size 0 lo:Nat):Int) == 0 && (1:Int) == 1 && (cM au.size au.size hi - cM au.size 0 lo) == au.size)=true then _ else _) _ _ s
 rw[if_neg G0,y7]
 first
  |exact wX (m:=Builtin.Tuple.tupleExact _) (wpAny_newObj_type (wY ⟨_,rfl,wY h⟩) wv)
  |exact wX (m:=Builtin.Tuple.tupleExact _) (wpAny_newObj_type (wX (wY (wY ⟨_,rfl,wY h⟩))) wv)
  |exact wX (wX (m:=Builtin.Tuple.tupleExact _) (wpAny_newObj_type (wY (wY ⟨_,rfl,wY h⟩)) wv))
  |exact wX (wX (m:=Builtin.Tuple.tupleExact _) (wpAny_newObj_type (wY ⟨_,rfl,wY h⟩) wv))
end
end HT
namespace L2
open PySem PySem.Spec PyProof.Rows
abbrev TO:=St->Hp->(Option Int->Hp->Prop)->Prop
def PO (X:Cx)(e:Option Expr)(t:TO):Prop :=
 ∀(aa:List (Addr×Obj))(s:Shared)(σ:St)(H:Hp)(Q:Option Int->Hp->Prop),Inv X aa σ H s->t σ H Q ->
  wq X (evalPart e X.env) (λu s'=>∃o H',Inv X aa σ H' s'/\IsPart u o/\Q o H') X.xe s
def Bt:TO:=λ_ H Q=>Q none H
def Hf (t:TE):TO:=λσ H Q=>t σ H λx H1=>∃i,x=.int i/\Q (some i) H1
section
variable {X:Cx}{e:Expr}{te:TE}{lo hi:Option Expr}{tl th:TO}{pos p2:Pos}
theorem Bu:PO X none Bt:=by
 intro aa s σ H Q I h;rw[evalPart_none];exact wY ⟨none,H,I,.none,h⟩
theorem Bv (h:PE X e te):PO X (some e) (Hf te):=by
 intro aa s σ H Q I hw;rw[evalPart_some];refine bJ (h aa s σ H _ I hw) λu s1 ⟨x,H1,I1,r1,q1⟩=>?_;obtain⟨i,rfl,q⟩:=q1;obtain⟨t,rfl⟩:=r1;exact⟨some i,H1,I1,.int i t,q⟩
def yk (X:Cx)(r:V->Option Int->Option Int->Hp->VK->Prop):Prop :=
 ∀(aa:List (Addr×Obj))(s:Shared)(σ:St)(H:Hp)(x:V)(v vl vu:Value)(lo hi:Option Int)(sl:Addr)(Q:VK),Inv X aa σ H s->aK x v->s.heap.IsSliceOf sl vl vu .none->IsPart vl lo->IsPart vu hi->r x lo hi H Q ->
  ∃T id,typeLookup (.type T) "__getitem__" = pure (some (.builtin id))/\s.TypeIs v T/\wq X (getItem v (.ref sl)) (EP X aa σ Q) X.xe s
theorem yk.or (h:yk X r)(h':yk X r'):yk X (λx lo hi H Q=>r x lo hi H Q∨r' x lo hi H Q):=by
 intro aa s σ H x v vl vu lo hi sl Q I rx hs pl pu q;rcases q with q|q
 ·exact h aa s σ H x v vl vu lo hi sl Q I rx hs pl pu q
 ·exact h' aa s σ H x v vl vu lo hi sl Q I rx hs pl pu q
def NI (r:V->Option Int->Option Int->Hp->VK->Prop)(te:TE)(tl th:TO):TE:=λσ H Q=>te σ H λx H1=>tl σ H1 λl H2=>th σ H2 λu H3=>r x l u H3 Q
theorem y8 (hr:yk X r)(he:PE X e te)(hl:PO X lo tl)(hu:PO X hi th):PE X (.Subscript e (.Slice lo hi none p2) pos) (NI r te tl th):=by
 intro aa s σ H Q I h;refine Subscript_ (bJ (he aa s σ H _ I h) λv s1 ⟨x,H1,I1,r1,q1⟩=>?_);refine wpAny_Slice (bJ (hl aa s1 σ H1 _ I1 q1) λvl s2 ⟨l,H2,I2,pl,q2⟩=>bJ (hu aa s2 σ H2 _ I2 q2) λvu s3 ⟨u,H3,I3,pu,q3⟩=>?_);rw[evalPart_none];refine wY ?_;have I4:Inv X aa σ H3 { s3 with heap:=s3.heap.push { cls:=.type "slice",data:=.fields #[vl,vu,.none] } }:=I3.kept (t':=s3.toks) λb ob q=>vZ _ q;obtain⟨T,id,hT,ht,hg⟩:=hr aa { s3 with heap:=s3.heap.push { cls:=.type "slice",data:=.fields #[vl,vu,.none] } } σ H3 x v vl vu l u s3.heap.objs.size Q I4 r1 (Heap.IsSliceOf.new ..) pl pu q3;show wq X (subscriptTail e (.Slice lo hi none p2) v (.ref s3.heap.objs.size)) (EP X aa σ Q) X.xe { s3 with heap:=s3.heap.push { cls:=.type "slice",data:=.fields #[vl,vu,.none] } };exact tail_any (ops:=[.ref s3.heap.objs.size,v]) ht hT hg (by with_unfolding_all rfl)
def nk (xs:List V)(lo hi:Option Int):List V:=(xs.drop (HT.cM xs.length 0 lo)).take (HT.cM xs.length xs.length hi - HT.cM xs.length 0 lo)
theorem kO (xs:List V)(lo hi:Option Int):(nk xs lo hi).length<=xs.length:=by
 unfold nk;rw[List.length_take,List.length_drop];omega
def Ki (K:Frag):V->Option Int->Option Int->Hp->VK->Prop:=λx lo hi H Q=>∃a xs,x=.ref a/\gh K H a xs /\
 ¬(HT.cM xs.length 0 lo=0/\HT.cM xs.length xs.length hi=xs.length)/\∀p,H p=none->Q (.ref p) (upd H p (.tup (nk xs lo hi)))
theorem E8:yk X (Ki X.K):=by
 intro aa s σ H x v vl vu lo hi sl Q I rx hs pl pu h;obtain⟨a,xs,rfl,hx,hw,q⟩:=h;cases rx
 obtain⟨its,r,ht,hz⟩:=I.tuple hx;have bD:its.toArray.size=xs.length:=by rw[vH];exact r.length.symm
 refine⟨"tuple",_,PyProof.Rows.slot_tuple_getitem.lookup,ht.typeIs,?_⟩;refine HT.j6 ht hs pl pu (by rw[bD];exact hw) ?_ (by rw[bD];exact hz);rw[bD];refine⟨.ref s.heap.objs.size,_,I.laid (t':=s.toks) (o:=.tup (nk xs lo hi)) (λb ob q=>vZ _ q) (vT _) ?_,rfl,q _ (I.hok.fresh (vT _))⟩;exact⟨vR (kO xs lo hi) hz,_,(r.drop (HT.cM xs.length 0 lo)).take (HT.cM xs.length xs.length hi - HT.cM xs.length 0 lo),IsTup.new _ _⟩
def Hg (K:Frag):R2:=λx y H Q=>∃a b xs ys,x=.ref a/\y=.ref b/\gh K H a xs/\gh K H b ys/\xs≠[]/\xs.length+ys.length<=sizeLine /\
 (ys=[]->Q (.ref a) H)/\(ys≠[]->∀p,H p=none->Q (.ref p) (upd H p (.tup (xs++ys))))
theorem aP.nil_iff (r:aP xs us):us=[]↔xs=[]:=by
 cases r with
 |nil=>simp
 |cons _ _=>simp
theorem Bw:c6 X (binaryOp .Add) (Hg X.K):=by
 intro aa s σ H x y v u Q I rx ry h;obtain⟨a,b,xs,ys,rfl,rfl,ha,hb,hx,hz,q1,q2⟩:=h;cases rx
 cases ry
 obtain⟨its,r1,p1,_⟩:=I.tuple ha;obtain⟨ya,r2,p2,_⟩:=I.tuple hb;refine HT.Br p1 p2 (λz=>hx (r1.nil_iff.mp z)) (λz=>⟨.ref a,H,I,rfl,q1 (r2.nil_iff.mp z)⟩) (λz=>?_) (by rw[←r1.length,←r2.length];exact hz);refine⟨.ref s.heap.objs.size,_,I.laid (t':=s.toks) (o:=.tup (xs++ys)) (λb ob q=>vZ _ q) (vT _) ?_,rfl,q2 (λw=>z (r2.nil_iff.mpr w)) _ (I.hok.fresh (vT _))⟩;exact⟨by rw[vA];exact hz,_,r1.append r2,IsTup.new _ _⟩
end
def y9 (n:Nat)(i:Int):Option Nat:=if 0<=i then (if i<n then some i.toNat else none)else if -(n:Int)<=i then some (i+n).toNat else none
def nn {α:Type}(xs:List α)(i:Int):Option α:=(y9 xs.length i).bind λj=>xs[j]?
theorem u8 (h:y9 n i=some j):seqIndex? i n=some j/\j<n/\-(n:Int)<=i/\i<n:=by
 unfold y9 at h;by_cases h0:0<=i
 ·rw[if_pos h0]at h;by_cases h1:i<n
  ·rw[if_pos h1]at h;have e:i.toNat=j:=vK h;exact⟨by rw[seqIndex_of h0 h1,e],by omega,by omega,h1⟩
  ·rw[if_neg h1]at h;cases h
 ·rw[if_neg h0]at h;by_cases h1 : -(n:Int)<=i
  ·rw[if_pos h1]at h;have e:(i+n).toNat=j:=vK h;exact⟨by rw[seqIndex_neg (by omega) h1,e],by omega,h1,by omega⟩
  ·rw[if_neg h1]at h;cases h
theorem px {α:Type}{xs:List α}{i:Int}{v:α}(h:nn xs i=some v):∃j,seqIndex? i xs.length=some j/\xs[j]? = some v/\j<xs.length/\-(xs.length:Int)<=i/\i<xs.length:=by
 unfold nn at h;cases e:y9 xs.length i with
 |none=>rw[e]at h;cases h
 |some j=>
  rw[e]at h;obtain⟨h1,h2,h3,h4⟩:=u8 e;exact⟨j,h1,h,h2,h3,h4⟩
theorem By {α:Type}{xs:List α}{j:Nat}{v:α}(h:xs[j]? = some v):nn xs (j:Int)=some v:=by
 have hj:j<xs.length:=(vV h).1;have e:y9 xs.length (j:Int)=some j:=by
  unfold y9;rw[if_pos (by omega),if_pos (by omega)];simp
 unfold nn;rw[e];exact h
def lu (b:Expr):Prop:=∀o i,subscripted b false o i=operate [o,i] (getItem o i)
def yA (X:Cx)(r:R2):Prop :=
 ∀(value slice:Expr)(aa:List (Addr×Obj))(s:Shared)(σ:St)(H:Hp)(x y:V)(v u:Value)(Q:VK),Inv X aa σ H s->aK x v->aK y u->r x y H Q ->
  subscripted slice false v u=operate [v,u] (getItem v u)->wq X (subscriptTail value slice v u) (EP X aa σ Q) X.xe s
def ym (X:Cx)(id:String)(r:V->List V->Hp->VK->Prop):Prop :=
 ∀(aa:List (Addr×Obj))(s:Shared)(σ:St)(H:Hp)(x:V)(xs:List V)(v:Value)(us:List Value)(Q:VK),Inv X aa σ H s->aK x v->aP xs us->r x xs H Q ->
  wq X (call (.builtin id) (v::us)) (EP X aa σ Q) X.xe s
section
variable {X:Cx}{a b:Expr}{ta tb:TE}{pos:Pos}
theorem yA.or (h:yA X r)(h':yA X r'):yA X (λx y H Q=>r x y H Q∨r' x y H Q):=by
 intro value slice aa s σ H x y v u Q I rx ry q hs;rcases q with q|q
 ·exact h value slice aa s σ H x y v u Q I rx ry q hs
 ·exact h' value slice aa s σ H x y v u Q I rx ry q hs
theorem ym.or {id:String}{r r':V->List V->Hp->VK->Prop}(h:ym X id r)(h':ym X id r'):ym X id (λx xs H Q=>r x xs H Q∨r' x xs H Q):=by
 intro aa s σ H x xs v us Q I rx rs q;rcases q with q|q
 ·exact h aa s σ H x xs v us Q I rx rs q
 ·exact h' aa s σ H x xs v us Q I rx rs q
theorem yB (hr:yA X r)(ha:PE X a ta)(hb:PE X b tb)(hs:lu b):PE X (.Subscript a b pos) (Js r ta tb):=by
 intro aa s σ H Q I h;exact Subscript_ (Eo ha hb I h λv u s2 x y H2 I2 rx ry q=>hr a b aa s2 σ H2 x y v u Q I2 rx ry q (hs _ _))
def Kj (K:Frag):R2:=λx y H Q=>∃p xs i v,x=.ref p/\y=.int i/\fU K H p xs/\nn xs i=some v/\Q v H
def Kk (K:Frag):R2:=λx y H Q=>∃p xs i v,x=.ref p/\y=.int i/\gh K H p xs/\nn xs i=some v/\Q v H
def Kl:R2:=λx y H Q=>∃z i c,x=.str z/\y=.int i/\z.length<=sizeLine/\nn z.cps.toList i=some c/\Q (.str ⟨#[c]⟩) H
theorem Bz:yA X (Kj X.K):=by
 intro value slice aa s σ H x y v u Q I rx ry h hs;obtain⟨p,xs,i,z,rfl,rfl,hq,he,q⟩:=h;cases rx
 obtain⟨t,rfl⟩:=ry;obtain⟨its,r,pl,hz⟩:=I.list hq;obtain⟨j,h1,h2,h3,h4,h5⟩:=px he;obtain⟨w,ew,ID⟩:=r.get h2;have hl:=r.length;have hn:=kn;have hW:EP X aa σ Q w s:=⟨z,H,I,ID,q⟩;by_cases h0:0<=i
 ·have hj:i.toNat=j:=by
   rw[seqIndex_of h0 h5]at h1;exact vK h1
  exact item_listR pl.isList h0 (by omega) (by rw[hj];simpa using ew) hW hs
 ·have hj:(i+(its.toArray.size:Int)).toNat=j:=by
   rw[seqIndex_neg (by omega) h4]at h1;rw[vH,←hl];exact vK h1
  exact subscriptTail_builtinR (x:=w) pl.isList.typeIs slot_list_getitem.lookup
   (wpAny_getItem_list_neg (Q:=λr s'=>r=w/\EP X aa σ Q r s') pl.isList (by omega) (by rw[vH]<;>omega) (by omega) (by rw[hj];simpa using ew) ⟨rfl,hW⟩) hs
theorem yC:yA X (Kk X.K):=by
 intro value slice aa s σ H x y v u Q I rx ry h hs;obtain⟨p,xs,i,z,rfl,rfl,hq,he,q⟩:=h;cases rx
 obtain⟨t,rfl⟩:=ry;obtain⟨its,r,pl,hz⟩:=I.tuple hq;obtain⟨j,h1,h2,h3,h4,h5⟩:=px he;obtain⟨w,ew,ID⟩:=r.get h2;have hl:=r.length;have hn:=kn;have hW:EP X aa σ Q w s:=⟨z,H,I,ID,q⟩;exact subscriptTail_builtinR (x:=w) pl.typeIs slot_tuple_getitem.lookup
  (getItem_tuple (j:=j) (Q:=λr s'=>r=w/\EP X aa σ Q r s') pl (by omega) (by omega) (by rw[vH,←hl];exact h1) (by simpa using ew) ⟨rfl,hW⟩) hs
theorem lK:yA X Kl:=by
 intro value slice aa s σ H x y v u Q I rx ry h hs;obtain⟨z,i,c,rfl,rfl,hz,he,q⟩:=h;obtain⟨t,rfl⟩:=rx;obtain⟨t',rfl⟩:=ry;obtain⟨j,h1,h2,h3,h4,h5⟩:=px he;have hl:z.cps.toList.length=z.length:=by simp[Str.length]
 rw[hl]at h1 h4 h5;have hn:=kn;exact tail_any (typeIs_str s z t) slot_str_getitem.lookup (getItem_str (c:=c) (by
  have e1:decide (i < -(2 ^ 63:Int))=false:=decide_eq_false (by omega);have e2:decide (i ≥ 2 ^ 63)=false:=decide_eq_false (by omega);rw[e1,e2,Bool.or_false]) (by rw[h1];simpa using h2) ⟨.str ⟨#[c]⟩,H,I.tok _,⟨_,rfl⟩,q⟩) hs
theorem sY (its:List Value)(n j:Nat)(u:Value):Obj.mapSeq (·.setIfInBounds j u) { cls:=.type "list",data:=.seq its.toArray n }={ cls:=.type "list",data:=.seq (its.set j u).toArray n }:=by
 simp[Obj.mapSeq]
theorem Inv.lst (I:Inv X aa σ H s)(h:H p=some (.lst xs)):
  ∃(its:List Value)(n:Nat),aP xs its/\s.heap.get? p=some { cls:=.type "list",data:=.seq its.toArray n }/\xs.length<=sizeLine:=by
 obtain⟨z,its,n,r,e⟩:=I.hok p _ h;exact⟨its,n,r,e,z⟩
theorem Inv.lstUpd {aa:List (Addr×Obj)}{σ:St}{H:Hp}{s:Shared}{p:Addr}{xs ys:List V}{its its':List Value}{n n':Nat}{f:Obj->Obj}(I:Inv X aa σ H s)(h:H p=some (.lst xs))
  (ho:s.heap.get? p=some { cls:=.type "list",data:=.seq its.toArray n }) (hf:f { cls:=.type "list",data:=.seq its.toArray n }={ cls:=.type "list",data:=.seq its'.toArray n' }) (r:aP ys its') (hz:ys.length<=sizeLine) (t:Nat):
  Inv X aa σ (upd H p (.lst ys)) { s with heap:=s.heap.update p f,toks:=t }:=by
 have e:(s.heap.update p f).get? p=some { cls:=.type "list",data:=.seq its'.toArray n' }:=by
  rw[Heap.get?_update_self f ho (by rw[hf]<;>rfl),hf]
 refine I.write (x:=p) (e:=p) (by rw[h];trivial) (.inl rfl) (λb u hb q=>(Heap.get?_update_other _ _ (Ne.symm hb)).trans q) ⟨_,e⟩ ?_;exact⟨hz,its',n',r,e⟩
def Hh:V->V->V->Hp->(Hp->Prop)->Prop:=λo i v H Q=>∃p xs k j,o=.ref p/\i=.int k/\H p=some (.lst xs)/\y9 xs.length k=some j/\Q (upd H p (.lst (xs.set j v)))
theorem yD:GI X Hh:=by
 intro aa s σ H o i v ov iv u Q I ro ri rv h;obtain⟨p,xs,k,j,rfl,rfl,hp,hj,q⟩:=h;cases ro
 obtain⟨t,rfl⟩:=ri;obtain⟨its,n,r,ho,hz⟩:=I.lst hp;obtain⟨h1,h2,h3,h4⟩:=u8 hj;have hl:=r.length;have hn:=kn;have I':Inv X aa σ (upd H p (.lst (xs.set j v))) { s with heap:=s.heap.update p (Obj.mapSeq (·.setIfInBounds j u)) } :=
  I.lstUpd hp ho (sY its n j u) (r.set rv j) (by rw[List.length_set];exact hz) s.toks
 by_cases h0:0<=k
 ·have hk:k.toNat=j:=by
   rw[seqIndex_of h0 h4]at h1;exact vK h1
  exact PySem.W.ki_setAt ho h0 (by omega) (by rw[vH,←hl];exact h4) (by rw[hk];exact⟨_,I',q⟩)
 ·have hk:(k+(its.toArray.size:Int)).toNat=j:=by
   rw[seqIndex_neg (by omega) h3]at h1;rw[vH,←hl];exact vK h1
  exact PySem.W.ki_setBack ho (by omega) (by rw[vH,←hl];exact h3) (by omega) (by rw[hk];exact⟨_,I',q⟩)
theorem pz (lo hi:Option Int)(n:Nat):(sliceBounds lo hi none n).1=((HT.cM n 0 lo:Nat):Int)/\(sliceBounds lo hi none n).2.1=((HT.cM n n hi:Nat):Int)/\(sliceBounds lo hi none n).2.2=1:=by
 refine⟨?_,?_,rfl⟩
 ·cases lo with
  |none=>simp[sliceBounds,HT.cM]
  |some i=>
   simp only[sliceBounds,HT.cM,Option.getD_none,show(1:Int) > 0 by decide,if_true];by_cases h:i<0
   ·simp only[h,if_true]<;>omega
   ·simp only[h,if_false]<;>omega
 ·cases hi with
  |none=>simp[sliceBounds,HT.cM]
  |some i=>
   simp only[sliceBounds,HT.cM,Option.getD_none,show(1:Int) > 0 by decide,if_true];by_cases h:i<0
   ·simp only[h,if_true]<;>omega
   ·simp only[h,if_false]<;>omega
theorem np (its:List Value)(lo hi:Option Int):slicePick its.toArray lo hi none=((its.drop (HT.cM its.length 0 lo)).take (HT.cM its.length its.length hi - HT.cM its.length 0 lo)).toArray:=by
 obtain⟨h1,h2,h3⟩:=pz lo hi its.toArray.size;unfold slicePick;rw[h1,h2,h3];simp only[sliceRange_one,pick_run,vH]<;>rfl
def Km (K:Frag):V->Option Int->Option Int->Hp->VK->Prop:=λx lo hi H Q=>∃a xs,x=.ref a/\fU K H a xs/\∀p,H p=none->Q (.ref p) (upd H p (.lst (nk xs lo hi)))
theorem B1:yk X (Km X.K):=by
 intro aa s σ H x v vl vu lo hi sl Q I rx hs pl pu h;obtain⟨a,xs,rfl,hx,q⟩:=h;cases rx
 obtain⟨its,r,ht,hz⟩:=I.list hx;have bD:=r.length;refine⟨"list",_,slot_list_getitem.lookup,ht.isList.typeIs,?_⟩;refine wpAny_getItem_list_slice ht.isList hs pl pu .none (by simp) ?_ (by rw[vH]<;>omega)
 rw[np,←bD];refine⟨.ref s.heap.objs.size,_,I.laid (t':=s.toks) (o:=.lst (nk xs lo hi)) (λb ob q=>vZ _ q) (vT _) ?_,rfl,q _ (I.hok.fresh (vT _))⟩;exact⟨vR (kO xs lo hi) hz,_,0,(r.drop (HT.cM xs.length 0 lo)).take (HT.cM xs.length xs.length hi - HT.cM xs.length 0 lo),vY _ rfl⟩
noncomputable def iU:V->Bool
 |.non=>true
 |.bl _=>true
 |.int _=>true
 |.str _=>true
 |_=>false
def AN:V->V->Bool
 |.non,.non=>true
 |.bl a,.bl b=>a == b
 |.bl a,.int b=>(if a then 1 else 0) == b
 |.int a,.bl b=>a == (if b then 1 else 0)
 |.int a,.int b=>a == b
 |.str a,.str b=>a == b
 |_,_=>false
theorem E9 (ry:aK y u)(rx:aK x v)(fy:iU y=true)(fx:iU x=true):SeqAt.EqAt A s u v (AN y x):=by
 cases y with
 |non=>
  cases ry
  cases x with
  |non=>cases rx;exact SeqAt.EqAt.same _
  |bl b=>cases rx;exact SeqAt.EqAt.none_bool b
  |int b=>obtain⟨t,rfl⟩:=rx;exact SeqAt.EqAt.none_int b t
  |str b=>obtain⟨t,rfl⟩:=rx;exact SeqAt.EqAt.none_str b t
  |_=>exact absurd (show false=true from fx) uY
 |bl a=>
  cases ry
  cases x with
  |non=>cases rx;exact SeqAt.EqAt.bool_none a
  |bl b=>cases rx;exact SeqAt.EqAt.bool_bool a b
  |int b=>obtain⟨t,rfl⟩:=rx;exact SeqAt.EqAt.bool_int a b t
  |str b=>obtain⟨t,rfl⟩:=rx;exact SeqAt.EqAt.bool_str a b t
  |_=>exact absurd (show false=true from fx) uY
 |int a=>
  obtain⟨t',rfl⟩:=ry;cases x with
  |non=>cases rx;exact SeqAt.EqAt.int_none a t'
  |bl b=>cases rx;exact SeqAt.EqAt.int_bool a t' b
  |int b=>obtain⟨t,rfl⟩:=rx;exact SeqAt.EqAt.int_int a t' b t
  |str b=>obtain⟨t,rfl⟩:=rx;exact SeqAt.EqAt.int_str a t' b t
  |_=>exact absurd (show false=true from fx) uY
 |str a=>
  obtain⟨t',rfl⟩:=ry;cases x with
  |non=>cases rx;exact SeqAt.EqAt.str_none a t'
  |bl b=>cases rx;exact SeqAt.EqAt.str_bool a t' b
  |int b=>obtain⟨t,rfl⟩:=rx;exact SeqAt.EqAt.str_int a t' b t
  |str b=>obtain⟨t,rfl⟩:=rx;exact SeqAt.EqAt.str_str a t' b t
  |_=>exact absurd (show false=true from fx) uY
 |_=>exact absurd (show false=true from fy) uY
def B3 (x:V)(u:Value):Bool:=match u with
 |.none=>AN .non x
 |.bool b=>AN (.bl b) x
 |.int i _=>AN (.int i) x
 |.str z _=>AN (.str z) x
 |_=>false
theorem yE (r:aK y u)(f:iU y=true):B3 x u=AN y x:=by
 cases y with
 |non=>cases r;rfl
 |bl b=>cases r;rfl
 |int i=>obtain⟨t,rfl⟩:=r;rfl
 |str z=>obtain⟨t,rfl⟩:=r;rfl
 |_=>exact absurd (show false=true from f) uY
theorem p0:∀ {xs:List V}{us:List Value},aP xs us->xs.all iU=true->us.any (B3 x)=xs.any λy=>AN y x
 |_,_,.nil,_=>rfl
 |y::xs,u::us,.cons r t,f=>by
  rw[List.all_cons,vD]at f;rw[List.any_cons,List.any_cons,yE r f.1,p0 t f.2]
theorem lL (rx:aK x v)(fx:iU x=true):∀ {xs:List V}{us:List Value},aP xs us->xs.all iU=true->∀u∈us,SeqAt.EqAt A s u v (B3 x u)
 |_,_,.nil,_=>λu hu=>by cases hu
 |y::xs,u::us,.cons r t,f=>λu' hu=>by
  rw[List.all_cons,vD]at f;rcases vP hu with rfl|hu
  ·rw[yE r f.1];exact E9 r rx f.1 fx
  ·exact lL rx fx t f.2 u' hu
noncomputable def Jt (x:V)(xs:List V):Bool:=xs.any λy=>AN y x
def NJ (K:Frag)(O3:Bool):R2:=λx y H Q=>∃p xs,y=.ref p/\(fU K H p xs∨gh K H p xs)/\iU x=true/\xs.all iU=true/\Q (.bl (if O3 then !Jt x xs else Jt x xs)) H
theorem wM:c6 X (compareOp .In) (NJ X.K false):=by
 intro aa s σ H x y v u Q I rx ry h;obtain⟨p,xs,rfl,hq,fx,fs,q⟩:=h;cases ry
 rcases hq with hq|hq
 ·obtain⟨its,r,pl,hz⟩:=I.list hq;refine SeqAt.in_listAt (B3 x) pl.isList (λw hw=>lL rx fx r fs w (by simpa using hw)) ⟨.bl _,H,I,rfl,?_⟩;rw[show its.toArray.any (B3 x)=its.any (B3 x) by simp,p0 r fs];exact q
 ·obtain⟨its,r,pl,hz⟩:=I.tuple hq;refine SeqAt.in_tupleAt (B3 x) pl (λw hw=>lL rx fx r fs w (by simpa using hw)) ⟨.bl _,H,I,rfl,?_⟩;rw[show its.toArray.any (B3 x)=its.any (B3 x) by simp,p0 r fs];exact q
theorem p4:bG X (.builtin "len") (λxs H Q=>∃p ys,xs=[.ref p]/\(fU X.K H p ys∨gh X.K H p ys)/\Q (.int ys.length) H):=by
 intro aa s σ H xs us Q I r h;obtain⟨p,ys,rfl,hq,q⟩:=h;obtain⟨u,rfl,rx⟩:=gX r;cases rx
 have hn:=kn;rcases hq with hq|hq
 ·obtain⟨its,r',pl,hz⟩:=I.list hq;have bD:=r'.length;exact Calls.call_len_list pl.isList (by simp only[vH]<;>omega) ⟨.int ys.length,H,I.tok _,⟨s.toks+1,by rw[vH,bD]⟩,q⟩
 ·obtain⟨its,r',pl,hz⟩:=I.tuple hq;have bD:=r'.length;exact len_tuple pl (by simp only[vH]<;>omega) ⟨.int ys.length,H,I.tok _,⟨s.toks+1,by rw[vH,bD]⟩,q⟩
theorem p5:bG X (.builtin "len") (λxs H Q=>∃z,xs=[.str z]/\z.length<=sizeLine/\Q (.int z.length) H):=by
 intro aa s σ H xs us Q I r h;obtain⟨z,rfl,hz,q⟩:=h;obtain⟨u,rfl,t,rfl⟩:=gX r;have hn:=kn;exact len_str (by omega) ⟨.int z.length,H,I.tok _,⟨_,rfl⟩,q⟩
theorem bG.or (h:bG X f r)(h':bG X f r'):bG X f (λxs H Q=>r xs H Q∨r' xs H Q):=by
 intro aa s σ H xs us Q I rs q;rcases q with q|q
 ·exact h aa s σ H xs us Q I rs q
 ·exact h' aa s σ H xs us Q I rs q
theorem p6:bG X (.type "list") (λxs H Q=>∃p ys,xs=[.ref p]/\(fU X.K H p ys∨gh X.K H p ys)/\∀l,H l=none->Q (.ref l) (upd H l (.lst ys))):=by
 intro aa s σ H xs us Q I r h;obtain⟨p,ys,rfl,hq,q⟩:=h;obtain⟨u,rfl,rx⟩:=gX r;cases rx
 have hW:∀(its:List Value),aP ys its->ys.length<=sizeLine->∀(h':Heap)(c':Nat),(∀b o',s.heap.get? b=some o'->h'.get? b=some o') ->
   h'.get? s.heap.objs.size=some { cls:=.type "list",dict:=none,data:=.seq its.toArray c',slots:=#[] }->EP X aa σ Q (.ref s.heap.objs.size) { s with heap:=h' }:=λits r' hz h' c' kp e=>
  ⟨.ref s.heap.objs.size,_,I.laid (t':=s.toks) kp (vT _) (show br X.prog X.w _ h' _ (.lst ys)from ⟨hz,its,c',r',e⟩),rfl,q _ (I.hok.fresh (vT _))⟩
 rcases hq with hq|hq
 ·obtain⟨its,r',pl,hz⟩:=I.list hq;have bD:=r'.length;obtain⟨o,ho,hc,n,hd⟩:=pl.isList;exact call_list_seq p (.inl rfl) ho hc hd (λh' c' kp e=>hW its r' hz h' c' kp e) (by simp only[vH]<;>omega)
 ·obtain⟨its,r',pl,hz⟩:=I.tuple hq;have bD:=r'.length;obtain⟨o,ho,hc,n,hd⟩:=pl;exact call_list_seq p (.inr rfl) ho hc hd (λh' c' kp e=>hW its r' hz h' c' kp e) (by simp only[vH]<;>omega)
theorem nq:bG X (.type "tuple") (λxs H Q=>∃p ys,xs=[.ref p]/\((fU X.K H p ys/\∀l,H l=none->Q (.ref l) (upd H l (.tup ys)))∨(gh X.K H p ys/\Q (.ref p) H))):=by
 intro aa s σ H xs us Q I r h;obtain⟨p,ys,rfl,h⟩:=h;obtain⟨u,rfl,rx⟩:=gX r;cases rx
 rcases h with⟨hq,q⟩|⟨hq,q⟩
 ·obtain⟨its,r',pl,hz⟩:=I.list hq;have bD:=r'.length;refine call_tuple_list pl.isList (λh' kp=>?_) (by simp only[vH]<;>omega)
  have I1:Inv X aa σ H { s with heap:=h' }:=I.kept (t':=s.toks) kp;have I2:Inv X aa σ (upd H h'.objs.size (.tup ys)) { s with heap:=h'.push { cls:=.type "tuple",data:=.seq its.toArray } } :=
   I1.laid (t':=s.toks) (λb o e=>vZ _ e) (vT _) (show br X.prog X.w _ _ _ (.tup ys)from ⟨hz,its,r',IsTup.new _ _⟩)
  exact⟨.ref h'.objs.size,_,I2,rfl,q _ (I1.hok.fresh (vT _))⟩
 ·obtain⟨its,r',pl,hz⟩:=I.tuple hq;exact call_tuple_same pl ⟨.ref p,H,I,rfl,q⟩
def Kn (K:Frag)(T:String)(x:V)(H:Hp):Prop:=match x with
 |.str _=>T = "str"
 |.int _=>T = "int"
 |.ref p=>(T = "list"/\∃xs,fU K H p xs)∨(T = "tuple"/\∃o,K.lookup p=some o/\o.cls=.type "tuple"/\o.dict=none) ∨
   (T = "dict"/\((∃aG ob,H p=some (.dK aG ob))∨∃aG,H p=some (.dT aG)))∨(T = "set"/\∃S n,H p=some (.set S n))
 |_=>False
theorem yF (I:Inv X aa σ H s)(r:aK x v)(ty:Kn X.K T x H):
  s.TypeIs v T/\∀a,v=.ref a->∃ob,s.heap.get? a=some ob/\ob.dict=none:=by
 cases x with
 |str z=>
  obtain⟨t,rfl⟩:=r;cases (show T = "str" from ty)
  exact⟨typeIs_str s z t,λ_ e=>nomatch e⟩
 |int i=>
  obtain⟨t,rfl⟩:=r;cases (show T = "int" from ty)
  exact⟨typeIs_int s i t,λ_ e=>nomatch e⟩
 |ref p=>
  cases r
  rcases ty with⟨rfl,xs,hq⟩|⟨rfl,o,hk,hc,hd⟩|⟨rfl,hk⟩|⟨rfl,S,n,hk⟩
  ·obtain⟨its,_,pl,_⟩:=I.list hq;refine⟨pl.isList.typeIs,λa e=>?_⟩;cases e
   obtain⟨o,n,e,c,hd,_⟩:=pl;exact⟨o,e,hd⟩
  ·refine⟨⟨o,I.kIn p o hk,hc⟩,λa e=>?_⟩;cases e
   exact⟨o,I.kIn _ o hk,hd⟩
  ·have z:∃o,s.heap.get? p=some o/\o.ExactDict:=by
    rcases hk with⟨aG,My,hk⟩|⟨aG,hk⟩
    ·obtain⟨_,_,_,_,_,o,_,_,e,ex,_⟩:=I.hok p _ hk;exact⟨o,e,ex⟩
    ·obtain⟨_,_,_,_,o,_,_,e,ex,_⟩:=I.hok p _ hk;exact⟨o,e,ex⟩
   obtain⟨o,e,ex⟩:=z;refine⟨⟨o,e,ex.1⟩,λa e2=>?_⟩;cases e2
   exact⟨o,e,ex.2.1⟩
  ·obtain⟨o,_,_,_,e,ex,_⟩:=I.hok p _ hk;refine⟨⟨o,e,ex.1⟩,λa e2=>?_⟩;cases e2
   exact⟨o,e,ex.2.1⟩
 |_=>exact False.elim ty
def Ko (K:Frag)(T:String)(r:V->List V->Hp->VK->Prop)(to:TE):TE:=λσ H Q=>to σ H λx H1=>Kn K T x H1/\r x [] H1 Q
def NK (K:Frag)(T:String)(r:V->List V->Hp->VK->Prop)(to:TE)(t:TA):TE:=λσ H Q=>to σ H λx H1=>Kn K T x H1/\t σ H1 λxs H2=>r x xs H2 Q
variable {o e:Expr}{es:List Expr}{to:TE}{t:TA}{name:Str}{dq ce:Pos}{T id:String}{r:V->List V->Hp->VK->Prop}
theorem EA (pa:PlainAttrs T)(slot:Slot T name id)(AU:typeOf (.builtin id)=pure (.type "method_descriptor"))(hm:ym X id r)(ho:PE X o to)
  (gD:attributeBase o name X.env (eval o X.env)=eval o X.env:=by rfl) (gE:(dq.endLine == ce.line)=true:=by rfl):PE X (.Call (.Attribute o name dq) [] [] ce) (Ko X.K T r to):=by
 intro aa s σ H Q I h;refine wpAny_Call_method0_late gD gE (bJ (ho aa s σ H _ I h) λv s1 ⟨x,H1,I1,r1,ty,q1⟩=>?_);obtain⟨h1,h2⟩:=yF I1 r1 ty;exact⟨T,id,pa,slot,AU,h1,h2,Calls.callWith_builtin rfl (PySem.evalArgs_none (hm aa s1 σ H1 x [] v [] Q I1 r1 .nil q1))⟩
theorem u9 (pa:PlainAttrs T)(slot:Slot T name id)(AU:typeOf (.builtin id)=pure (.type "method_descriptor"))(hm:ym X id r)(ho:PE X o to)(ha:PA X (e::es) t)
  (gD:attributeBase o name X.env (eval o X.env)=eval o X.env:=by rfl)
  (qr:((backTo ce (starEach (e::es) X.env)).all (λx=>!x.1) && (backToKw ce (keywordEach [] X.env)).all (λx=>x.1.isSome)
   && decide ((e::es).length+([]:List Keyword).length+(if([]:List Keyword).isEmpty then 0 else 1)<30))=true:=by rfl)
  (gE:(dq.endLine == ce.line)=true:=by rfl) (hs:starEach (e::es) X.env=(false,eval e X.env)::starEach es X.env:=by rfl) (FK:(backTo ce (starEach es X.env)).any (·.1)=false:=by rfl):
  PE X (.Call (.Attribute o name dq) (e::es) [] ce) (NK X.K T r to t):=by
 intro aa s σ H Q I h;refine wpAny_Call_method_late gD qr gE rfl (bJ (ho aa s σ H _ I h) λv s1 ⟨x,H1,I1,r1,ty,q1⟩=>?_);obtain⟨h1,h2⟩:=yF I1 r1 ty;refine⟨T,id,pa,slot,AU,h1,h2,?_⟩;have hA:=ha ce aa s1 σ H1 _ I1 q1;rw[hs]at hA ⊢;refine Calls.callWith_builtin (by show(false || (backTo ce (starEach es X.env)).any (·.1))=false;rw[FK]<;>rfl) (Calls.evalArgs_plain ?_)
 exact bJ hA λus s2 ⟨vs,H2,I2,r2,q2⟩=>hm aa s2 σ H2 x vs v us Q I2 r1 r2 q2
/- xs.append(e),list.index on a module's tuple .. are ym facts of 06m -/
end
def Mh (X:Cx)(id:String)(r:V->List V->Hp->VK->Prop):Prop :=
 ∀(aa:List (Addr×Obj))(s:Shared)(σ:St)(H:Hp)(x:V)(xs:List V)(v:Value)(us:List Value)(Q:VK),Inv X aa σ H s->aK x v->aP xs us->r x xs H Q ->
  wq X (call (.builtin id) (v::us)) (EP X aa σ Q) X.xe s
theorem aP.one:∀ {x:V}{us:List Value},aP [x] us->∃u,us=[u]/\aK x u
 |_,_,.cons r .nil=>⟨_,rfl,r⟩
theorem aP.two:∀ {x y:V}{us:List Value},aP [x,y] us->∃u v,us=[u,v]/\aK x u/\aK y v
 |_,_,_,.cons r (.cons q .nil)=>⟨_,_,rfl,r,q⟩
theorem aP.zero:∀ {us:List Value},aP [] us->us=[]
 |_,.nil=>rfl
section
variable {X:Cx}{aa:List (Addr×Obj)}{σ:St}{H:Hp}{s:Shared}{l b:Addr}{xs ys zs:List V}
theorem Inv.lset {its its':List Value}{n:Nat}{f:Array Value->Array Value}{t':Nat}(I:Inv X aa σ H s)(hH:H l=some (.lst xs))
  (e:s.heap.get? l=some { cls:=.type "list",data:=.seq its.toArray n }) (hf:f its.toArray=its'.toArray) (hv:aP ys its') (hz:ys.length<=sizeLine):
  Inv X aa σ (upd H l (.lst ys)) { s with heap:=s.heap.update l (Obj.mapSeq f),toks:=t' }:=by
 have q:=PySem.IsL.update e f;rw[hf]at q;refine I.write (x:=l) (e:=l) (by rw[hH];exact trivial) (.inl rfl) (λb' u hb hu=>(Heap.get?_update_other s.heap (Obj.mapSeq f) (Ne.symm hb)).trans hu) ⟨_,q⟩ ?_;exact⟨hz,its',_,hv,q⟩
theorem Inv.lnew (I:Inv X aa σ H s)(hv:aP ys its)(hz:ys.length<=sizeLine):
  Inv X aa σ (upd H s.heap.objs.size (.lst ys)) { s with heap:=s.heap.push { cls:=.type "list",data:=.seq its.toArray },toks:=t' } :=
 I.laid (λ_ _ q=>vZ _ q) (vT _) ⟨hz,its,0,hv,vY _ rfl⟩
theorem Inv.fresh (I:Inv X aa σ H s):H s.heap.objs.size=none:=I.hok.fresh (vT _)
theorem Inv.lstM (I:Inv X aa σ H s)(hH:H l=some (.lst xs)):xs.length<=sizeLine/\∃(its:List Value)(n:Nat),aP xs its/\xs.length=its.length/\s.heap.get? l=some { cls:=.type "list",data:=.seq its.toArray n }:=by
 obtain⟨z,its,n,r,e⟩:=I.hok l _ hH;exact⟨z,its,n,r,r.length,e⟩
theorem yG (h:n<=sizeLine):Builtin.List.listTooLong n=false:=by
 unfold Builtin.List.listTooLong;exact decide_eq_false (by omega)
end
section
variable {X:Cx}
def uA:V->List V->Hp->VK->Prop:=λx vs H Q=>∃l xs y,x=.ref l/\vs=[y]/\H l=some (.lst xs)/\xs.length<sizeLine/\Q .non (upd H l (.lst (xs++[y])))
theorem nP:Mh X "list.append" uA:=by
 intro aa s σ H x vs v us Q I rx rv h;obtain⟨l,xs,y,rfl,rfl,hH,hz,q⟩:=h;cases rx
 obtain⟨u,rfl,ru⟩:=rv.one;obtain⟨z,its,n,r,hl,e⟩:=I.lstM hH;refine call_meets F.slot_list_append ⟨_,e,rfl⟩ F.entry_list_append (F.args_list_append_2 _ _) (PySem.list_append l its.toArray n u (by rw[vH];omega)) ⟨e,?_⟩;refine⟨.non,_,I.lset (its':=its++[u]) hH e (by simp) (r.append (.cons ru .nil)) ?_,rfl,q⟩;rw[vA,List.length_singleton];omega
def B4:V->List V->Hp->VK->Prop:=λx vs H Q=>∃l b xs zs,x=.ref l/\vs=[.ref b]/\H l=some (.lst xs)/\H b=some (.lst zs)/\xs.length+zs.length<=sizeLine/\Q .non (upd H l (.lst (xs++zs)))
theorem wN:Mh X "list.extend" B4:=by
 intro aa s σ H x vs v us Q I rx rv h;obtain⟨l,b,xs,zs,rfl,rfl,hH,hB,hz,q⟩:=h;cases rx
 obtain⟨u,rfl,ru⟩:=rv.one;cases ru
 obtain⟨z,its,n,r,hl,e⟩:=I.lstM hH;obtain⟨z2,ya,n2,r2,KY,e2⟩:=I.lstM hB;have hsz:its.toArray.size+ya.toArray.size<=sizeLine:=by rw[vH,vH];omega
 have IE:¬(!its.toArray.isEmpty && Builtin.List.listTooLong (its.toArray.size+ya.toArray.size))=true:=by
  rw[yG hsz,Bool.and_false];exact uY
 refine call_meets F.slot_list_extend ⟨_,e,rfl⟩ F.entry_list_extend (F.args_list_extend_2 _ _)
  (AutoSeq1.list_extend_list_list_0 l its.toArray n b ya.toArray n2 IE (by rw[vH];omega) (by omega)) ⟨e,e2,?_⟩
 refine⟨.non,_,I.lset (its':=its++ya) hH e (by simp) (r.append r2) ?_,rfl,q⟩;rw[vA];omega
end
end L2
namespace Att
open PySem PySem.W PySem.Calls PyProof.Rows
theorem li:∀(ns:List Int)(vs:List Value),WellAll P h vs (ns.map WData.int)->IntsAre vs ns:=by
 intro ns;induction ns with
 |nil=>
  intro vs w;rw[List.map_nil]at w;cases w
  exact .nil
 |cons n ns ih=>
  intro vs w;rw[uZ]at w;cases w with
  |cons a b=>
   cases a
   exact .cons _ _ (ih _ b)
theorem wO {l:OpenLaw}{n:Nat}(hn:l.most=some n){P:Params}{h:Heap}{args:List WData}{vals:List Value}
  (CS:l.row.toRowW.claim.pre args=true) (KZ:WellAll P h vals args):
  ∃a vs ns,vals=[Value.ref a]/\args=[WData.list (ns.map WData.int)]/\h.get? a=some { cls:=.type "list",data:=.seq vs.toArray }/\IntsAre vs ns/\ns.length<=n:=by
 have La:WShape.hasAll [] args [.list .int]=true:=(pre_splitW CS).1;have hc:l.pre.holds [] { args:=args }=true:=(pre_splitW CS).2;obtain⟨d,r,rfl,h1,h2⟩:=hasAllW_cons La;obtain rfl:=hasAllW_nil h2;obtain⟨xs,rfl,h3⟩:=hasW_list h1;obtain⟨ns,rfl⟩:=items_int h3;have bD:ns.length<=n:=by
  unfold OpenLaw.pre at hc;have h4:(WTm.not (.lt (.lit (.int (n:Int))) (.len (.arg 0)))).holds [] { args:=[.list (ns.map .int)] }=true:=by
   have h4:=(holds_andW hc).1;rw[hn]at h4;exact h4
  have h5:=condW_of h4 (w_not (w_lt w_lit (w_len_list (w_arg rfl))));rw[vI]at h5;refine Nat.le_of_not_lt λq=>?_;have q':(n:Int)<((ns.length:Nat):Int):=by omega
  first
   | (rw[decide_eq_true q']at h5;exact absurd h5 (by decide))
   | (simp at h5;omega)
 cases KZ with
 |cons w1 w2=>
  cases w2
  cases w1 with
  |list ho qt=>exact⟨_,_,ns,rfl,rfl,ho,li ns _ qt,bD⟩
theorem wP (l:OpenLaw)(args:List WData):l.row.toRowW.claim.post args (.bool true) args=true :=
 postW_of (r:=l.row.toRowW) (X:=(true == true))
  (show WShape.has [] (.bool true) .bool=true by first|rfl|decide|simp[WShape.has,WShape.arms,WShape.armsAll])
  (show(WTm.eq .res (.lit (.bool true))).value [] { args:=args,res:=some (.bool true),after:=args }=some (.bool (true == true))from w_eq_bool (w_res rfl) w_lit) rfl
section
variable {prog:Program}{w:World}{A:Around}{E:Value->Shared->Prop}{s:Shared}{K:Frag}
theorem Hi 
  (X:K.In s.heap) (hm:makesIn K C=true) (hi:findIn K (.ref C) "__init__" = some (some (.ref fI))) (hf:isFn K (.ref fI)=true)
  (h:codeAny (model prog w) (A.under (.builtin "type.__call__" ⟨.ref C::rest,kw⟩)) (.call (.ref fI) ⟨.ref (s.heap.objs.size+1)::rest,kw⟩) (InitBack (s.heap.objs.size+1) R)
   { s with heap:=(s.heap.push emptyDict).push (instObj C s.heap.objs.size) }):codeAny (model prog w) A (.call (.ref C) ⟨rest,kw⟩) R s:=by
 obtain⟨hh,g,d,t,os⟩:=s;exact make_core (makes_of X hm) (looks_findIn X hi) (λself=>bind_fn X self (beq_iff_eq.mp hf)) (.inl rfl) h
theorem Ge 
  (X:K.In s.heap) (I:PySem.W.InstAt s.heap x ox C (some (dictOf es n))) (hg:plainGet K C name=true) (hh:hasDictIn K C=true) (ha:findIn K (.ref C) name=some none)
  (hl:getL name es=some (some v)) (hv:handedIn v=true) (h:Q v { s with toks:=s.toks+1 }):wpAny (model prog w) A (getAttr (.ref x) name expr) Q E s :=
 get_value X I (plainGet_of hg).1 (findObj_own hh ha rfl hl) hv h
def Kp (h:Heap)(L d:Addr):List (Addr×Obj):=(List.range h.objs.size).filterMap λa=>if a=L∨a=d then none else (h.get? a).map λo=>(a,o)
end
end Att
namespace L2
open PySem PySem.Spec PyProof.Rows
theorem nQ:∀ {vs:List Value}{ns:List Int},IntsAre vs ns->aP (ns.map V.int) vs
 |_,_,.nil=>.nil
 |_,_,.cons n t h=>.cons ⟨t,rfl⟩ (nQ h)
noncomputable def dX (s:Stmt):Arguments:=match s with
 |.FunctionDef _ a _ _ _ _ _ _ _ _=>a
 |_=>{ posonlyargs:=[],args:=[],vararg:=none,kwonlyargs:=[],kw_defaults:=[],kwarg:=none,defaults:=[] }
noncomputable def bU (s:Stmt):List Stmt:=match s with
 |.FunctionDef _ _ b _ _ _ _ _ _ _=>b
 |_=>[]
noncomputable def aB (s:Stmt):Scope:=match s with
 |.FunctionDef _ _ _ _ _ _ sc _ _ _=>sc
 |_=>{ kind:=.function,names:=[],isGenerator:=false,isCoroutine:=false }
abbrev sM:Bp:=λ_ _ _ _ _ _=>False
abbrev E0:XK:=λ_ _ _=>False
theorem Hj:sV sM X E0:=λ_ _ _ _ _ _ _ h=>h.elim
structure FL (K:Frag)(x qual:Str)(st:Stmt)(f:Addr)(fd:FuncData):Prop where
 ex:∃(oc:Value)(od:Option Addr)(kV doc pm:Value)(an:Option Addr)(de ct:Value)(ni:Array (Option Value)),
  fd=fnOf x qual (dX st) (bU st) (aB st) .none kV doc pm an de ct/\K.lookup f=some ⟨oc,od,.func fd,ni⟩/\PySem.W.codeIn K de qual=true
 kp:PySem.W.keepIn K (.ref f)=true
section
variable {P:Program}{w:World}{K:Frag}{mg:Str->Option Value}{base:Heap}
theorem FL.ok {x qual:Str}{st:Stmt}{f:Addr}{fd:FuncData}{N ps:List Str}{k:Nat}{sp:Sp}(F:FL K x qual st f fd)(S:FnScope N ps (aB st))(len:∀vs H Q E,sp vs H Q E->vs.length=ps.length)
  (AB:∀(de:Value)(A:Around)(outer:List Env)(s:Shared)(H:Hp)(vs:List V)(Q:VK)(E:XK),eJ k (A.deeper (envOfC qual (aB st) s.heap.objs.size f de))->sp vs H Q E ->
   ∃t,pv (lh sM P w K mg base N qual (aB st) f de A outer s H E).nox (bU st) t/\t { nx:=λ_ H'=>Q .non H',rt:=Q } (gY N vs) H):ke P w K mg base sM (k+1) f fd ps sp:=by
 obtain⟨oc,od,kV,doc,pm,an,de,ct,ni,rfl,lk,lB⟩:=F.ex;refine Dl lk lB S len λA outer s H vs Q E hr Gy=>?_;obtain⟨t,h,q⟩:=AB de A outer s H vs Q E hr Gy;exact⟨t,h.nox,q⟩
theorem FL.binds {x qual:Str}{st:Stmt}{f:Addr}{fd:FuncData}{ps:List Str}(F:FL K x qual st f fd)
  (h:∀(kV doc pm:Value)(an:Option Addr)(de ct:Value)(us:List Value),us.length=ps.length->bindArgs (fnOf x qual (dX st) (bU st) (aB st) .none kV doc pm an de ct) ⟨us,[]⟩=pure (ps.zip us)):kN K fd ps []:=by
 obtain⟨oc,od,kV,doc,pm,an,de,ct,ni,rfl,lk,lB⟩:=F.ex;exact .all (h kV doc pm an de ct)
theorem EB {x qual:Str}{st:Stmt}{f:Addr}{oc:Value}{od an:Option Addr}{ni:Array (Option Value)}{kV doc pm de ct:Value}(l:K.lookup f=some ⟨oc,od,.func (fnOf x qual (dX st) (bU st) (aB st) .none kV doc pm an de ct),ni⟩)
  (c:PySem.W.codeIn K de qual=true) (k:PySem.W.keepIn K (.ref f)=true):FL K x qual st f (fnOf x qual (dX st) (bU st) (aB st) .none kV doc pm an de ct):=⟨⟨oc,od,kV,doc,pm,an,de,ct,ni,rfl,l,c⟩,k⟩
end
def aM (H H':Hp):Prop:=∀b o,H b=some o->H' b=some o
theorem aM.refl (H:Hp):aM H H:=λ_ _ h=>h
theorem aM.trans (a:aM H H1)(b:aM H1 H2):aM H H2:=λc o h=>b c o (a c o h)
theorem aM.free (e:aM H H')(h:H' l=Option.none):H l=Option.none:=by
 cases q:H l with
 |none=>rfl
 |some o=>
  rw[e l o q]at h;cases h
theorem aM.seq {K:Frag}{H H':Hp}{a:Addr}{xs:List V}(e:aM H H')(h:fU K H a xs):fU K H' a xs:=by
 rcases h with (h|⟨o,h⟩)|h
 ·exact .inl (.inl (e _ _ h))
 ·exact .inl (.inr ⟨o,e _ _ h⟩)
 ·exact .inr h
section
variable {κ:Type}[DecidableEq κ]
noncomputable def kq (aG:List (κ×V))(k:κ):Option V:=(aG.find? λkv=>decide (kv.1=k)).map (·.2)
def lM (aG:List (κ×V))(k:κ)(v:V):List (κ×V) :=
 if(aG.any λkv=>decide (kv.1=k))=true then aG.map (λkv=>if kv.1=k then (kv.1,v)else kv)else aG++[(k,v)]
theorem lN {p:κ×V}{r:List (κ×V)}{k:κ}(e:p.1=k):kq (p::r) k=some p.2:=by simp[kq,List.find?_cons,e]
theorem lO {p:κ×V}{r:List (κ×V)}{k:κ}(e:¬p.1=k):kq (p::r) k=kq r k:=by simp[kq,List.find?_cons,e]
theorem qC (aG:List (κ×V))(k:κ)(v:V):(lM aG k v).length<=aG.length+1:=by
 unfold lM;split
 ·rw[vI];omega
 ·rw[vA,vE,List.length_nil];omega
theorem nj.getD (r:nj o u)(rd:aK d d'):aK (o.getD d) (u.getD d'):=by
 cases o with
 |none=>cases u with
  |none=>exact rd
  |some _=>exact(show False from r).elim
 |some _=>cases u with
  |none=>exact(show False from r).elim
  |some _=>exact r
theorem KV.val {aG:List (κ×V)}{vs:List (κ×Value)}(r:KV aG vs)(k:κ):nj (kq aG k) (valueAt vs k):=by
 unfold KV at r;induction r with
 |nil=>exact True.intro
 |@cons p q ps qs h t ih=>
  obtain⟨h1,h2⟩:=h;by_cases e:p.1=k
  ·have e':q.1=k:=h1.symm.trans e;have b:valueAt (q::qs) k=some q.2:=by simp[valueAt,List.find?_cons,e']
   rw[lN e,b];exact h2
  ·have e':¬q.1=k:=λz=>e (h1.trans z);have b:valueAt (q::qs) k=valueAt qs k:=by simp[valueAt,List.find?_cons,e']
   rw[lO e,b];exact ih
theorem KV.any (r:KV aG vs)(k:κ):(aG.any λkv=>decide (kv.1=k))=vs.any λkv=>decide (kv.1=k):=by
 unfold KV at r;induction r with
 |nil=>rfl
 |cons h t ih=>rw[List.any_cons,List.any_cons,ih,h.1]
theorem KV.repl (r:KV aG vs)(k:κ)(ry:aK y u):
  KV (aG.map λkv=>if kv.1=k then (kv.1,y)else kv) (vs.map λkv=>if kv.1=k then (kv.1,u)else kv):=by
 unfold KV at r ⊢;induction r with
 |nil=>exact .nil
 |@cons p q ps qs h t ih=>
  rw[uZ,uZ];refine .cons ?_ ih;obtain⟨h1,h2⟩:=h;by_cases e:p.1=k
  ·rw[if_pos e,if_pos (h1.symm.trans e)];exact⟨h1,ry⟩
  ·rw[if_neg e,if_neg (λz=>e (h1.trans z))];exact⟨h1,h2⟩
theorem KV.put (r:KV aG vs)(k:κ)(ry:aK y u):KV (lM aG k y) (stored vs k u):=by
 unfold lM stored;rw[r.any k];by_cases e:(vs.any λkv=>decide (kv.1=k))=true
 ·rw[if_pos e,if_pos e];exact r.repl k ry
 ·rw[if_neg e,if_neg e];exact Paired.snoc r ⟨rfl,ry⟩
theorem KV.length (r:KV aG vs):aG.length=vs.length:=Paired.length r
end
theorem yH (r:aK (kV k) u):(ci P w).is k u=true:=by
 cases k with
 |inl i=>obtain⟨t,e⟩:=(show ∃t,u=Value.int i t from r);subst e;exact qy P w i t
 |inr x=>obtain⟨t,e⟩:=(show ∃t,u=Value.str x t from r);subst e;exact qz P w x t
theorem nR:∀ {ks:List dL}{us:List Value},aP (ks.map kV) us->ItemsAre (ci P w) ks us
 |[],_,r=>by rw[List.map_nil]at r;cases r;exact .nil
 |k::ks,_,r=>by
  rw[uZ]at r;cases r with
  |cons h t=>exact .cons (yH h) (nR t)
abbrev KT (H:Hp):List (List dL×V)->List (List dL×Addr×Value)->Prop:=Paired λp q=>p.1=q.1/\H q.2.1=some (.tup (p.1.map kV))/\aK p.2 q.2.2
theorem KT.val {H:Hp}{aG:List (List dL×V)}{xs:List (List dL×Addr×Value)}(r:KT H aG xs)(k:List dL):nj (kq aG k) ((atKey xs k).map (·.2)):=by
 induction r with
 |nil=>exact True.intro
 |@cons p q ps qs h t ih=>
  obtain⟨h1,_,h2⟩:=h;by_cases e:p.1=k
  ·have e':q.1=k:=h1.symm.trans e;have b:atKey (q::qs) k=some q.2:=by simp[atKey,List.find?_cons,e']
   rw[lN e,b];exact h2
  ·have e':¬q.1=k:=λz=>e (h1.trans z);have b:atKey (q::qs) k=atKey qs k:=by simp[atKey,List.find?_cons,e']
   rw[lO e,b];exact ih
section
variable {P:Program}{w:World}{H:Hp}{h:Heap}{a:Addr}
theorem Dm (ok:j4 P w H h)(e:Rd H a u):br P w H h a u:=e.ok ok
theorem yI (ok:j4 P w H h)(e:Rd H a (.dK aG ob)):aG.length<=sizeLine/\(a == sysModules)=false/\∃vs,KV aG vs/\h.DictOf (ci P w) a vs :=
 And.right (show br P w H h a (.dK aG ob)from Dm ok e)
theorem Hk (ok:j4 P w H h)(e:H a=some (.dK aG ob)):aG.length<=sizeLine/\(a == sysModules)=false/\∃vs,KV aG vs/\h.DictOf (ci P w) a vs:=yI ok (.inl e)
theorem yJ (ok:j4 P w H h)(e:H a=some (.tup (ks.map kV))):(tupleKind (ci P w)).is h ks a:=by
 obtain⟨_,its,r,o,h1,h2,n,h3⟩:=(show br P w H h a (.tup (ks.map kV))from ok a _ e);exact⟨o,its.toArray,n,h1,h2,h3,by simpa using nR r⟩
theorem Dn (ok:j4 P w H h)(e:Rd H a (.dT aG)):aG.length<=sizeLine/\(a == sysModules)=false /\
  ∃xs,KT H aG xs/\h.DictOfH (tupleKind (ci P w)) a xs:=by
 obtain⟨z,y,xs,r,o,es,ep,h1,h2,h3,h4,h5⟩:=(show br P w H h a (.dT aG)from Dm ok e);refine⟨z,y,xs,r,o,es,ep,h1,h2,h3,h4,λx hx=>?_,h5⟩;have all:∀ {l:List (List dL×V)}{m:List (List dL×Addr×Value)},KT H l m->∀x∈m,(tupleKind (ci P w)).is h x.1 x.2.1:=by
  intro l m q;induction q with
  |nil=>intro x hx;exact nomatch hx
  |@cons p q ps qs hq t ih=>
   intro x hx;rcases vP hx with e|hx
   ·subst e;exact yJ ok (by rw[←hq.1];exact hq.2.1)
   ·exact ih x hx
 exact all r x hx
end
def B5 (H:Hp)(a:Addr)(y:V)(r:Option V):Prop :=
 (∃aG k ob,Rd H a (.dK aG ob)/\y=kV k/\r=kq aG k)∨∃aG k b,Rd H a (.dT aG)/\y=.ref b/\H b=some (.tup (k.map kV))/\r=kq aG k
theorem B5.t (e:H a=some (.dT aG))(eb:H b=some (.tup (k.map kV))):B5 H a (.ref b) (kq aG k):=.inr ⟨aG,k,b,.inl e,rfl,eb,rfl⟩
section
variable {X:Cx}{aa:List (Addr×Obj)}{σ:St}{H:Hp}{s:Shared}{a:Addr}{y v:V}{u r:Value}{o:Option V}{A:Around}{E:Value->Shared->Prop}
theorem Inv.big (I:Inv X aa σ H s):sysModules<s.heap.objs.size:=by
 have h:mainGlobals<s.heap.objs.size:=(I.mod.glob.keeps I.bk).lt;exact Nat.lt_trans (by decide) h
theorem B6 (I:Inv X aa σ H s)(mu:G4 (H a))(hs:Heap.SameBut a s.heap h')(he:∃q,h'.get? a=some q)(new:br X.prog X.w (upd H a ob) h' a ob):
  Inv X aa σ (upd H a ob) { s with heap:=h',toks:=t' } :=
 I.write (x:=a) (e:=a) mu (.inl rfl) (λb q hb z=>(hs.2 b hb).trans z) he new
theorem EC (z:aG.length<=sizeLine)(hd:(a == sysModules)=false)(AV:KV aG vs)(dd:h'.DictOf (ci P w) a vs)(hg:h'.get? a=some ob):
  br P w H' h' a (.dK aG ob):=⟨hg,z,hd,vs,AV,dd⟩
end
theorem yK (h:Heap)(hb:sysModules<h.objs.size):br P w H (h.push { cls:=.type "dict",data:=.dict #[] }) h.objs.size (.dK [] { cls:=.type "dict",data:=.dict #[] }) :=
 ⟨vY _ rfl,uM _,beq_eq_false_iff_ne.mpr (Ne.symm (vS hb)),[],.nil,Heap.DictOf.new h⟩
def p7:List (TE×TE)->St->Hp->(List (V×V)->Hp->Prop)->Prop
 |[],_,H,Q=>Q [] H
 | (tk,tv)::r,σ,H,Q=>tk σ H λx H1=>tv σ H1 λy H2=>p7 r σ H2 λps H3=>Q ((x,y)::ps) H3
abbrev VV:List (V×V)->List (Value×Value)->Prop:=Paired λp q=>aK p.1 q.1/\aK p.2 q.2
def Hl (X:Cx)(pos:Pos)(iR:List (Option Expr))(gg:List Expr)(FM:List (TE×TE)):Prop :=
 ∀(aa:List (Addr×Obj))(s:Shared)(σ:St)(H:Hp)(Q:List (V×V)->Hp->Prop),Inv X aa σ H s->p7 FM σ H Q ->
  wq X (evalPairs (pairTrees iR gg X.env pos)) (λvs s'=>∃ps H',Inv X aa σ H' s'/\VV ps vs/\Q ps H') X.xe s
theorem B7:Hl X pos [] [] []:=λaa s σ H Q I h=>pairTrees_nil_walk ⟨[],H,I,.nil,h⟩
theorem yL (hk:PE X k tk)(hv:PE X v tv)(hr:Hl X pos ks vs FM):
  Hl X pos (some k::ks) (v::vs) ((tk,tv)::FM):=λaa s σ H Q I h=>
 pairTrees_cons_walk (bJ (hk aa s σ H _ I h) λu s1 ⟨x,H1,I1,rx,q1⟩=>bJ (hv aa s1 σ H1 _ I1 q1) λw2 s2 ⟨y,H2,I2,ry,q2⟩=>
  bJ (hr aa s2 σ H2 _ I2 q2) λws s3 ⟨ps,H3,I3,AV,q3⟩=>⟨(x,y)::ps,H3,I3,.cons ⟨rx,ry⟩ AV,q3⟩)
noncomputable def jg (aG lq:List (dL×V)):List (dL×V):=lq.foldl (λiS kv=>lM iS kv.1 kv.2) aG
theorem KV.merge:∀ {lq:List (dL×V)}{rs:List (dL×Value)}{aG:List (dL×V)}{vs:List (dL×Value)},KV lq rs->KV aG vs->KV (jg aG lq) (merged vs rs):=by
 intro lq rs aG vs r;unfold KV at r;induction r generalizing aG vs with
 |nil=>intro q;exact q
 |@cons p q ps qs h t ih=>
  intro r0;have e:KV (lM aG p.1 p.2) (stored vs q.1 q.2):=by
   have:=r0.put p.1 h.2;rw[←h.1];exact this
  exact ih e
theorem iV:∀(lq aG:List (dL×V)),(jg aG lq).length<=aG.length+lq.length
 |[],aG=>by show aG.length<=aG.length+0;omega
 |p::r,aG=>by
  have h1:=iV r (lM aG p.1 p.2);have h2:=qC aG p.1 p.2;show(jg (lM aG p.1 p.2) r).length<=_;rw[vE];omega
theorem lP:∀ {aG:List (dL×V)}{ws:List (Value×Value)},VV (aG.map λkv=>(kV kv.1,kv.2)) ws->∃rs,Carries (ci P w) ws rs/\KV aG rs
 |[],_,r=>by rw[List.map_nil]at r;cases r;exact⟨[],True.intro,.nil⟩
 |p::aG,_,r=>by
  rw[uZ]at r;cases r with
  |@cons a b as bs h t=>
   obtain⟨rs,c,q⟩:=lP (P:=P) (w:=w) t;obtain⟨b1,b2⟩:=b;exact⟨(p.1,b2)::rs,⟨yH h.1,rfl,c⟩,.cons ⟨rfl,h.2⟩ q⟩
def Dp (FM:List (TE×TE)):TE:=λσ H Q=>∀p ob,H p=none->p7 FM σ (upd H p (.dK [] ob)) λps H2=>H2 p=some (.dK [] ob)/\∃aG:List (dL×V),ps=aG.map (λkv=>(kV kv.1,kv.2))/\aG.length<=15/\∀IF,Q (.ref p) (upd H2 p (.dK (jg [] aG) IF))
theorem B8 (h:Hl X pos iR gg FM)(qt:iR.all (·.isSome)=true)(hl:iR.length=gg.length)(h0:iR≠[])
  (Lb:iR.length<=15):PE X (.Dict iR gg pos) (Dp FM):=by
 intro aa s σ H Q I q;have hn:=I.hok.fresh (vT s.heap.objs.size);have I1:=I.laid (a:=s.heap.objs.size) (o:=.dK [] { cls:=.type "dict",data:=.dict #[] }) (h':=s.heap.push { cls:=.type "dict",data:=.dict #[] }) (t':=s.toks) (λ_ _ q=>vZ _ q) (vT _) (yK s.heap I.big);refine wpAny_Dict_walk (knd:=ci X.prog X.w) qt hl h0 Lb (bJ (h aa _ σ _ _ I1 (q _ _ hn)) λws s2 ⟨ps,H2,I2,AV,e,aG,ep,lk,q2⟩=>?_);subst ep;obtain⟨rs,c,rk⟩:=lP (P:=X.prog) (w:=X.w) AV;obtain⟨z,hd,Qt,r0,dd⟩:=Hk I2.hok e;cases r0
 refine⟨rs,c,dd,λh' dd' hs=>?_⟩;have hz:(jg [] aG).length<=sizeLine:=by
  have h1:=iV aG [];rw[List.length_nil]at h1;rw[sizeLine_eq];omega
 obtain⟨IF,hq⟩:∃q,h'.get? s.heap.objs.size=some q:=let ⟨q,_,_,hq,_⟩:=dd';⟨q,hq⟩;exact⟨.ref s.heap.objs.size,_,B6 I2 (by rw[e];exact True.intro) hs ⟨IF,hq⟩ (EC hz hd (rk.merge .nil) dd' hq),rfl,q2 IF⟩
structure M2 (X:Cx)(o:Expr)(m:Str)(dq:Pos)(e f:Expr)(ce:Pos):Prop where
 base:attributeBase o m X.env (eval o X.env)=eval o X.env
 few:((backTo ce (starEach [e,f] X.env)).all (λx=>!x.1) && (backToKw ce (keywordEach [] X.env)).all (λx=>x.1.isSome)
  && decide (([e,f]:List Expr).length+([]:List Keyword).length+(if([]:List Keyword).isEmpty then 0 else 1)<30))=true
 line:(dq.endLine == ce.line)=true
 trees:backTo ce (starEach [e,f] X.env)=[(false,eval e X.env),(false,eval f X.env)]
def Mi (H:Hp)(a:Addr):Prop:=(∃aG ob,Rd H a (.dK aG ob))∨∃aG,Rd H a (.dT aG)
theorem ED (I:Inv X aa σ H s)(d:Mi H a):
  s.TypeIs (.ref a) "dict"/\(∀b,Value.ref a=.ref b->∃ob,s.heap.get? b=some ob/\ob.dict=none)/\(a == sysModules)=false:=by
 rcases d with⟨aG,My,e⟩|⟨aG,e⟩
 ·obtain⟨_,hd,vs,_,dd⟩:=yI I.hok e;refine⟨dd.typeIs,λb q=>?_,hd⟩;cases q
  obtain⟨ob,_,_,h1,h2,_⟩:=dd;exact⟨ob,h1,h2.2.1⟩
 ·obtain⟨_,hd,xs,_,dd⟩:=Dn I.hok e;refine⟨dd.typeIs,λb q=>?_,hd⟩;cases q
  obtain⟨ob,_,_,h1,h2,_⟩:=dd;exact⟨ob,h1,h2.2.1⟩
section
variable {X:Cx}{aa:List (Addr×Obj)}{σ:St}{H:Hp}{s:Shared}{a:Addr}{y d:V}{u r:Value}{o:Option V}{A:Around}{E:Value->Shared->Prop}
theorem EE (hu:A.units+1<cLine)(I:Inv X aa σ H s)(g:B5 H a y o)(ry:aK y u)(rd:aK d r)(h:∀w' s',Inv X aa σ H s'->aK (o.getD d) w'->Q w' s'):
  wpAny (model X.prog X.w) A (call (.builtin "dict.get") [.ref a,u,r]) Q E s:=by
 rcases g with⟨aG,k,ob,e,ey,l⟩|⟨aG,k,b,e,ey,eb,l⟩
 ·subst ey;obtain⟨z,hd,vs,AV,dd⟩:=yI I.hok e;refine call_meetsIn PySem.F.slot_dict_get dd.typeIs PySem.F.entry_dict_get (PySem.F.args_dict_get_3 _ _ _) (meets_dict_get_default (ci X.prog X.w) a (yH ry) hd r) ⟨_,dd.mapOf,h _ _ (I.tok _) ?_⟩;rw[l];exact(AV.val k).getD rd
 ·subst ey;cases (show u=Value.ref b from ry)
  obtain⟨z,hd,xs,AV,dd⟩:=Dn I.hok e;refine call_meetsIn PySem.F.slot_dict_get dd.typeIs PySem.F.entry_dict_get (PySem.F.args_dict_get_3 _ _ _) (meetsH_dict_get_default (tupleKind (ci X.prog X.w)) a b hd r) ⟨tupleKind_room_in1 hu,k,xs,yJ I.hok eb,dd,h _ _ (I.tok _) ?_⟩;rw[l];exact(AV.val k).getD rd
end
def EF (td ty tx:TE):TE:=λσ H Q=>td σ H λx H1=>∃a,x=.ref a/\Mi H1 a/\ty σ H1 λy H2=>tx σ H2 λz H3=>∃o,B5 H3 a y o/\Q (o.getD z) H3
section
variable {X:Cx}{o e f:Expr}{dq ce:Pos}{td ty tx:TE}
theorem yM (hu:X.A.units+1<cLine)(ho:PE X o td)(he:PE X e ty)(hf:PE X f tx)(m:M2 X o "get" dq e f ce):PE X (.Call (.Attribute o "get" dq) [e,f] [] ce) (EF td ty tx):=by
 intro aa s σ H Q I h;refine wpAny_Call_method m.base m.few m.line PySem.F.plainAttrs_dict PySem.F.slot_dict_get PySem.F.type_dict_get (bJ (ho aa s σ H _ I h) λu s1 ⟨x,H1,I1,rx,a,ex,d,q1⟩=>?_);subst ex;obtain rfl:u=Value.ref a:=rx;obtain⟨t1,t2,_⟩:=ED I1 d;refine⟨t1,t2,?_⟩;rw[m.trees];refine Calls.callWith_builtin rfl (Calls.evalArgs_plain (Calls.spliced_cons (bJ (he aa s1 σ H1 _ I1 q1) λiv s2 ⟨y,H2,I2,ry,q2⟩=>
  Calls.spliced_cons (bJ (hf aa s2 σ H2 _ I2 q2) λfv s3 ⟨z,H3,I3,rz,ov,g,q3⟩=>Calls.spliced_nil ?_))))
 exact EE hu I3 g ry rz λw' s4 I4 ID=>⟨_,H3,I4,ID,q3⟩
end
end L2
namespace DL
open PySem L2
set_option linter.all false
abbrev St:=L2.St
inductive D where
 |non|bl (b:Bool)|int (i:Int)|str (x:Str)|ty (n:String)|tup (ds:List D)|lst (ds:List D)
  |dk (ks:List dL) (vs:List D)|dt (ks:List (List dL)) (vs:List D)
abbrev OB:=Option (D×Bool)
mutual
inductive Is (K:Frag)(H:Hp):V->D->Prop where
 |non:Is K H .non .non
 |bl (b:Bool):Is K H (.bl b) (.bl b)
 |int (i:Int):Is K H (.int i) (.int i)
 |str (x:Str):Is K H (.str x) (.str x)
 |ty (n:String):Is K H (.ty n) (.ty n)
 |tup {a:Addr}{vs:List V}{ds:List D}(h:gh K H a vs) (hs:IsL K H vs ds):Is K H (.ref a) (.tup ds)
 |lst {a:Addr}{vs:List V}{ds:List D}(h:fU K H a vs) (hs:IsL K H vs ds):Is K H (.ref a) (.lst ds)
 |dk {a:Addr}{ks:List dL}{vs:List V}{ds:List D}{ob:Obj}(h:H a=some (.dK (ks.zip vs) ob)) (hl:ks.length=vs.length) (hs:IsL K H vs ds):Is K H (.ref a) (.dk ks ds)
 |dt {a:Addr}{ks:List (List dL)}{vs:List V}{ds:List D}(h:H a=some (.dT (ks.zip vs))) (hl:ks.length=vs.length) (hs:IsL K H vs ds):Is K H (.ref a) (.dt ks ds)
inductive IsL (K:Frag)(H:Hp):List V->List D->Prop where
 |nil:IsL K H [] []
 |cons {v:V}{d:D}{vs:List V}{ds:List D}(h:Is K H v d) (hs:IsL K H vs ds):IsL K H (v::vs) (d::ds)
end
mutual
def bd:D->Bool
 |.lst _=>false
 |.dk _ _=>false
 |.dt _ _=>false
 |.tup ds=>aS ds
 |_=>true
def aS:List D->Bool
 |[]=>true
 |d::ds=>bd d && aS ds
end
@[simp] theorem Gf:bd .non=true:=by simp only[bd]
@[simp] theorem Hm (b:Bool):bd (.bl b)=true:=by simp only[bd]
@[simp] theorem Gg (i:Int):bd (.int i)=true:=by simp only[bd]
@[simp] theorem Gh (x:Str):bd (.str x)=true:=by simp only[bd]
@[simp] theorem Hn (x:String):bd (.ty x)=true:=by simp only[bd]
@[simp] theorem Gi (ds:List D):bd (.tup ds)=aS ds:=by rw[bd]
@[simp] theorem Gj (ds:List D):bd (.lst ds)=false:=by rw[bd]
@[simp] theorem Ho (ks:List dL)(ds:List D):bd (.dk ks ds)=false:=by rw[bd]
@[simp] theorem Hq (ks:List (List dL))(ds:List D):bd (.dt ks ds)=false:=by rw[bd]
@[simp] theorem EG:aS []=true:=by rw[aS]
@[simp] theorem Dq (d:D)(ds:List D):aS (d::ds)=(bd d && aS ds):=by rw[aS]
section
variable {K:Frag}{H H':Hp}
mutual
theorem Is.keep (hT:∀a vs,gh K H a vs->gh K H' a vs)(hL:∀a vs,fU K H a vs->fU K H' a vs)(hK:∀a aG ob,H a=some (.dK aG ob)->H' a=some (.dK aG ob))(hM:∀a aG,H a=some (.dT aG)->H' a=some (.dT aG)):∀ {v:V}{d:D},Is K H v d->Is K H' v d
 |_,_,.non=>.non
 |_,_,.bl b=>.bl b
 |_,_,.int i=>.int i
 |_,_,.str x=>.str x
 |_,_,.ty x=>.ty x
 |_,_,.tup h hs=>.tup (hT _ _ h) (IsL.keep hT hL hK hM hs)
 |_,_,.lst h hs=>.lst (hL _ _ h) (IsL.keep hT hL hK hM hs)
 |_,_,.dk h hl hs=>.dk (hK _ _ _ h) hl (IsL.keep hT hL hK hM hs)
 |_,_,.dt h hl hs=>.dt (hM _ _ h) hl (IsL.keep hT hL hK hM hs)
theorem IsL.keep (hT:∀a vs,gh K H a vs->gh K H' a vs)(hL:∀a vs,fU K H a vs->fU K H' a vs)(hK:∀a aG ob,H a=some (.dK aG ob)->H' a=some (.dK aG ob))(hM:∀a aG,H a=some (.dT aG)->H' a=some (.dT aG)):∀ {vs:List V}{ds:List D},IsL K H vs ds->IsL K H' vs ds
 |_,_,.nil=>.nil
 |_,_,.cons h hs=>.cons (Is.keep hT hL hK hM h) (IsL.keep hT hL hK hM hs)
end
mutual
theorem Is.keepT (hT:∀a vs,gh K H a vs->gh K H' a vs):∀ {v:V}{d:D},Is K H v d->bd d=true->Is K H' v d
 |_,_,.non,_=>.non
 |_,_,.bl b,_=>.bl b
 |_,_,.int i,_=>.int i
 |_,_,.str x,_=>.str x
 |_,_,.ty x,_=>.ty x
 |_,_,.tup h hs,n=>.tup (hT _ _ h) (IsL.keepT hT hs (by simpa using n))
 |_,_,.lst h hs,n=>by simp at n
 |_,_,.dk h hl hs,n=>by simp at n
 |_,_,.dt h hl hs,n=>by simp at n
theorem IsL.keepT (hT:∀a vs,gh K H a vs->gh K H' a vs):∀ {vs:List V}{ds:List D},IsL K H vs ds->aS ds=true->IsL K H' vs ds
 |_,_,.nil,_=>.nil
 |_,_,.cons h hs,n=>by
  simp at n;exact .cons (Is.keepT hT h n.1) (IsL.keepT hT hs n.2)
end
theorem aQ (e:aM H H')(h:gh K H a xs):gh K H' a xs:=by
 rcases h with (h|⟨o,h⟩)|h
 ·exact .inl (.inl (e _ _ h))
 ·exact .inl (.inr ⟨o,e _ _ h⟩)
 ·exact .inr h
theorem Is.mono (h:Is K H v d)(e:aM H H'):Is K H' v d:=h.keep (λ_ _=>aQ e) (λ_ _=>e.seq) (λ_ _ _ q=>e _ _ q) λ_ _ q=>e _ _ q
theorem IsL.mono (h:IsL K H v d)(e:aM H H'):IsL K H' v d:=h.keep (λ_ _=>aQ e) (λ_ _=>e.seq) (λ_ _ _ q=>e _ _ q) λ_ _ q=>e _ _ q
theorem IsL.length:∀ {vs:List V}{ds:List D},IsL K H vs ds->vs.length=ds.length
 |_,_,.nil=>rfl
 |_,_,.cons _ t=>congrArg (· + 1) t.length
theorem IsL.get:∀ {vs:List V}{ds:List D}{i:Nat}{d:D},IsL K H vs ds->ds[i]? = some d->∃v,vs[i]? = some v/\Is K H v d
 |_,_,_,_,.nil,e=>by simp at e
 |_,_,0,_,.cons h _,e=>by simp at e;subst e;exact⟨_,rfl,h⟩
 |_,_,i+1,d,.cons _ t,e=>by
  obtain⟨u,h1,h2⟩:=t.get (i:=i) (d:=d) (by simpa using e);exact⟨u,by simpa using h1,h2⟩
theorem IsL.append:∀ {vs ws:List V}{ds es:List D},IsL K H vs ds->IsL K H ws es->IsL K H (vs++ws) (ds++es)
 |_,_,_,_,.nil,s=>s
 |_,_,_,_,.cons r t,s=>.cons r (t.append s)
theorem IsL.take:∀ {vs:List V}{ds:List D}(n:Nat),IsL K H vs ds->IsL K H (vs.take n) (ds.take n)
 |_,_,0,_=>by simpa using IsL.nil
 |_,_,_+1,.nil=>.nil
 |_,_,n+1,.cons r t=>.cons r (t.take n)
theorem IsL.drop:∀ {vs:List V}{ds:List D}(n:Nat),IsL K H vs ds->IsL K H (vs.drop n) (ds.drop n)
 |_,_,0,r=>r
 |_,_,_+1,.nil=>.nil
 |_,_,n+1,.cons _ t=>t.drop n
theorem IsL.set (h:Is K H v d):∀ {vs:List V}{ds:List D}(i:Nat),IsL K H vs ds->IsL K H (vs.set i v) (ds.set i d)
 |_,_,_,.nil=>.nil
 |_,_,0,.cons _ t=>.cons h t
 |_,_,i+1,.cons r t=>.cons r (IsL.set h i t)
theorem IsL.flat {vs:List V}{ns:List Int}(h:vs=ns.map V.int):IsL K H vs (ns.map D.int):=by
 subst h;induction ns with
 |nil=>exact .nil
 |cons n ns ih=>exact .cons (.int n) ih
end
structure Ext (B N H H':Hp):Prop where
 hh:aM H H'
 bn:aM B N
 nh:aM N H'
 new:∀a o,N a=some o->B a=some o∨H a=none
theorem Ext.refl (h:aM B H):Ext B B H H:=⟨.refl _,.refl _,h,λ_ _ e=>.inl e⟩
theorem Ext.trans (x:Ext B N H H1)(y:Ext N N2 H1 H2):Ext B N2 H H2 :=
 ⟨x.hh.trans y.hh,x.bn.trans y.bn,y.nh,λa o e=>(y.new a o e).elim (λq=>x.new a o q) λq=>.inr (x.hh.free q)⟩
theorem Ext.laid (h:aM B H)(hp:H p=none):Ext B (upd B p o) H (upd H p o):=by
 have hB:B p=none:=h.free hp;refine⟨λa u e=>?_,λa u e=>?_,λa u e=>?_,λa u e=>?_⟩
 ·rw[a9 (λq=>by subst q;rw[hp]at e;cases e)];exact e
 ·rw[a9 (λq=>by subst q;rw[hB]at e;cases e)];exact e
 ·by_cases q:a=p
  ·subst q;rw[ay]at e ⊢;exact e
  ·rw[a9 q]at e ⊢;exact h _ _ e
 ·by_cases q:a=p
  ·subst q;exact .inr hp
  ·rw[a9 q]at e;exact .inl e
theorem Ext.grow (h:aM B H)(hh:aM H H'):Ext B B H H':=⟨hh,.refl _,h.trans hh,λ_ _ e=>.inl e⟩
abbrev Env:=List OB
abbrev FE:=Env->OB
abbrev FA:=Env->Option (List D)
abbrev FT:=Env->Option Bool
def Gk (K:Frag)(H N:Hp)(v:V)(d:D):Prop:=∃(a:Addr)(vs:List V)(ds:List D),v=.ref a/\d=.lst ds/\H a=none/\N a=some (.lst vs)/\IsL K N vs ds
theorem Gk.back (h:Gk K H' N v d)(e:aM H H'):Gk K H N v d:=let ⟨a,vs,ds,q,y,z,r⟩:=h;⟨a,vs,ds,q,y,e.free z,r⟩
noncomputable def qD:List Str:=["in_order","has_seal","is_first_death","bases_by","as_heard"]
noncomputable def EH (x:Str):Str:=x ++ ".<locals>." ++ "<lambda>"
def Tb (K:Frag)(B:Hp):Prop:=∀x∈qD,∀c P,PySem.W.tabIn K x=some (c,P)->B P=some (.tbl (EH x))
theorem Tb.mono (h:Tb K B)(e:aM B B'):Tb K B':=λx hx c P q=>e _ _ (h x hx c P q)
structure dJ (K:Frag)(B:Hp)(σ:St)(ρ:Env):Prop where
 tb:Tb K B
 at':∀(i:Nat)(d:D)(b:Bool),ρ[i]? = some (some (d,b))->∃v,σ[i]? = some (some v)/\Is K B v d
theorem dJ.mono (h:dJ K B σ ρ)(e:aM B B'):dJ K B' σ ρ:=⟨h.tb.mono e,λi d b q=>let ⟨v,h1,h2⟩:=h.at' i d b q;⟨v,h1,h2.mono e⟩⟩
def Fin (K:Frag)(B H:Hp)(d:D)(b:Bool)(Q:VK):Prop:=∀(v:V)(H' N:Hp),Ext B N H H'->Is K N v d->(b=true->Gk K H N v d)->Q v H'
def tD (K:Frag)(f:FE):TE:=λσ H Q=>∃(B:Hp)(ρ:Env)(d:D)(b:Bool),aM B H/\dJ K B σ ρ/\f ρ=some (d,b)/\Fin K B H d b Q
def wQ (K:Frag)(f:FT):TT:=λσ H Q=>∃(B:Hp)(ρ:Env)(c:Bool),aM B H/\dJ K B σ ρ/\f ρ=some c/\∀H',aM H H'->Q c H'
def Hr (K:Frag)(f:FA):TA:=λσ H Q=>∃(B:Hp)(ρ:Env)(ds:List D),aM B H/\dJ K B σ ρ/\f ρ=some ds/\∀(vs:List V)(H' N:Hp),Ext B N H H'->IsL K N vs ds->Q vs H'
def rD (K:Frag)(op:D->D->OB):R2:=λx y H Q=>∃(B:Hp)(dx dy d:D)(b:Bool),aM B H/\Is K B x dx/\Is K B y dy/\op dx dy=some (d,b)/\Fin K B H d b Q
def Kq (K:Frag)(op:D->OB):V->Hp->VK->Prop:=λx H Q=>∃(B:Hp)(dx d:D)(b:Bool),aM B H/\Is K B x dx/\op dx=some (d,b)/\Fin K B H d b Q
def yn (K:Frag)(op:List D->OB):List V->Hp->VK->Prop:=λxs H Q=>∃(B:Hp)(ds:List D)(d:D)(b:Bool),aM B H/\IsL K B xs ds/\op ds=some (d,b)/\Fin K B H d b Q
theorem Fin.one (h:Fin K B H d false Q)(s:aM B H)(i:Is K B v d):Q v H:=h v H B (.refl s) i (by simp)
theorem Fin.into (h:Fin K B H d b Q)(x:Ext B N H H1):Fin K N H1 d b Q:=λv H' N' y i fr=>h v H' N' (x.trans y) i λe=>(fr e).back x.hh
@[simp] noncomputable def fC (d:D):FE:=λ_=>some (d,false)
@[simp] noncomputable def af (i:Nat):FE:=λρ=>match ρ[i]? with|some (some (d,_))=>some (d,false)|_=>none
@[simp] noncomputable def f2 (op:D->D->OB)(fa fb:FE):FE:=λρ=>(fa ρ).bind λx=>(fb ρ).bind λy=>op x.1 y.1
@[simp] noncomputable def f1 (op:D->OB)(fa:FE):FE:=λρ=>(fa ρ).bind λx=>op x.1
@[simp] noncomputable def ai:FA:=λ_=>some []
@[simp] noncomputable def ac (fa:FE)(fr:FA):FA:=λρ=>(fa ρ).bind λx=>(fr ρ).bind λxs=>some (x.1::xs)
@[simp] noncomputable def fA (op:List D->OB)(fa:FA):FE:=λρ=>(fa ρ).bind op
theorem EI (h:tD K (af i) σ H Q):∃v,σ[i]? = some (some v)/\Q v H:=by
 obtain⟨B,ρ,d,b,s,r,e,q⟩:=h;unfold af at e;split at e
 ·rename_i d' b' e';cases e
  obtain⟨v,h1,h2⟩:=r.at' i _ _ e';exact⟨v,h1,q.one s h2⟩
 ·cases e
theorem B9 (h:tD K (f2 op fa fb) σ H Q):tD K fa σ H λx H1=>tD K fb σ H1 λy H2=>rD K op x y H2 Q:=by
 obtain⟨B,ρ,d,b,s,r,e,q⟩:=h;obtain⟨x,ex,e⟩:=oX e;obtain⟨y,ey,e⟩:=oX e;refine⟨B,ρ,x.1,x.2,s,r,ex,λv H1 N x1 i1 _=>⟨N,ρ,y.1,y.2,x1.nh,r.mono x1.bn,ey,λv2 H2 N2 x2 i2 _=>⟨N2,x.1,y.1,d,b,x2.nh,i1.mono x2.bn,i2,e,?_⟩⟩⟩;exact q.into (x1.trans x2)
theorem Kr (h:tD K (f1 op fa) σ H Q):tD K fa σ H λx H1=>Kq K op x H1 Q:=by
 obtain⟨B,ρ,d,b,s,r,e,q⟩:=h;obtain⟨x,ex,e⟩:=oX e;exact⟨B,ρ,x.1,x.2,s,r,ex,λv H1 N x1 i1 _=>⟨N,x.1,d,b,x1.nh,i1,e,q.into x1⟩⟩
theorem BA (h:tD K (fA op fa) σ H Q):Hr K fa σ H λxs H1=>yn K op xs H1 Q:=by
 obtain⟨B,ρ,d,b,s,r,e,q⟩:=h;obtain⟨x,ex,e⟩:=oX e;exact⟨B,ρ,x,s,r,ex,λv H1 N x1 i1=>⟨N,x,d,b,x1.nh,i1,e,q.into x1⟩⟩
theorem BB (h:Hr K ai σ H Q):Q [] H:=by
 obtain⟨B,ρ,ds,s,r,e,q⟩:=h;cases e
 exact q [] H B (.refl s) .nil
theorem yN (h:Hr K (ac fa fr) σ H Q):tD K fa σ H λx H1=>Hr K fr σ H1 λxs H2=>Q (x::xs) H2:=by
 obtain⟨B,ρ,ds,s,r,e,q⟩:=h;obtain⟨x,ex,e⟩:=oX e;obtain⟨y,ey,e⟩:=oX e;cases e
 exact⟨B,ρ,x.1,x.2,s,r,ex,λv H1 N x1 i1 _=>⟨N,ρ,y,x1.nh,r.mono x1.bn,ey,λvs H2 N2 x2 i2=>q _ H2 N2 (x1.trans x2) (.cons (i1.mono x2.bn) i2)⟩⟩
@[simp] noncomputable def aT (f:FE):FT:=λρ=>match f ρ with|some (.bl c,_)=>some c|_=>none
@[simp] noncomputable def iW (f g:FT):FT:=λρ=>match f ρ with|some true=>g ρ|some false=>some false|none=>none
@[simp] noncomputable def cN (f g:FT):FT:=λρ=>match f ρ with|some true=>some true|some false=>g ρ|none=>none
@[simp] noncomputable def c7 (f:FT):FT:=λρ=>(f ρ).map (!·)
@[simp] noncomputable def p8 (c:FT)(f g:FE):FE:=λρ=>match c ρ with|some true=>f ρ|some false=>g ρ|none=>none
open Classical in
noncomputable def cW (H:Hp)(P:Addr->Prop):Hp:=λa=>if P a then none else H a
theorem bY (h:¬P a):cW H P a=H a:=by unfold cW;rw[if_neg h]
theorem sZ (h:P a):cW H P a=none:=by unfold cW;rw[if_pos h]
theorem lQ (h:cW H P a=some o):¬P a/\H a=some o:=by
 by_cases q:P a
 ·rw[sZ q]at h;cases h
 ·rw[bY q]at h;exact⟨q,h⟩
theorem bA:aM (cW H P) H:=λ_ _ e=>(lQ e).2
theorem dD (e:∀a o,H a=some o->¬P a->H' a=some o/\¬P' a):aM (cW H P) (cW H' P'):=λa o q=>by
 obtain⟨h1,h2⟩:=lQ q;obtain⟨h3,h4⟩:=e a o h2 h1;rw[bY h4];exact h3
noncomputable def join (N N':Hp):Hp:=λa=>match N a with|some o=>some o|none=>N' a
theorem dj:aM N (join N N'):=λa o e=>by unfold join;rw[e]
theorem cY (e:N a=none):join N N' a=N' a:=by unfold join;rw[e]
def own (σ:St)(ρ:Env)(a:Addr):Prop:=∃(i:Nat)(d:D),ρ[i]? = some (some (d,true))/\σ[i]? = some (some (V.ref a))
inductive Bx (K:Frag)(C:Hp):HO->D->Prop where
 |lst {vs:List V}{ds:List D}(h:IsL K C vs ds):Bx K C (.lst vs) (.lst ds)
 |dk {ks:List dL}{vs:List V}{ds:List D}(hl:ks.length=vs.length) (h:IsL K C vs ds) {ob:Obj}:Bx K C (.dK (ks.zip vs) ob) (.dk ks ds)
 |dt {ks:List (List dL)}{vs:List V}{ds:List D}(hl:ks.length=vs.length) (h:IsL K C vs ds):Bx K C (.dT (ks.zip vs)) (.dt ks ds)
theorem Bx.mono (h:Bx K C o d)(e:aM C C'):Bx K C' o d:=by
 cases h with
 |lst h=>exact .lst (h.mono e)
 |dk hl h=>exact .dk hl (h.mono e)
 |dt hl h=>exact .dt hl (h.mono e)
theorem Bx.is (h:Bx K C o d)(e:C a=some o):Is K C (.ref a) d:=by
 cases h with
 |lst h=>exact .lst (fU.of e) h
 |dk hl h=>exact .dk e hl h
 |dt hl h=>exact .dt e hl h
structure cV (K:Frag)(B0 H0 N H:Hp)(σ:St)(ρ:Env):Prop where
 bh:aM B0 H0
 tb:Tb K B0
 ext:Ext B0 N H0 H
 len:ρ.length=σ.length
 sh:∀(i:Nat)(d:D),ρ[i]? = some (some (d,false))->∃v,σ[i]? = some (some v)/\Is K (cW N (own σ ρ)) v d
 ow:∀(i:Nat)(d:D),ρ[i]? = some (some (d,true))->∃(a:Addr)(o:HO),σ[i]? = some (some (V.ref a))/\N a=some o/\H0 a=none/\Bx K (cW N (own σ ρ)) o d
 inj:∀(i j:Nat)(a:Addr)(d e:D),ρ[i]? = some (some (d,true))->ρ[j]? = some (some (e,true))->σ[i]? = some (some (V.ref a))->σ[j]? = some (some (V.ref a))->i=j
def tf (K:Frag)(B0 H0 H:Hp)(σ:St)(ρ:Env):Prop:=∃N,cV K B0 H0 N H σ ρ
section
variable {K:Frag}{B0 H0 N H H':Hp}{σ:St}{ρ:Env}
theorem cV.owL (s:cV K B0 H0 N H σ ρ)(i:Nat)(d:D)(q:ρ[i]? = some (some (.lst es,true)))(hd:d=.lst es:=by rfl):∃(a:Addr)(vs:List V)(ds:List D),d=.lst ds/\σ[i]? = some (some (V.ref a))/\N a=some (.lst vs)/\H0 a=none/\IsL K (cW N (own σ ρ)) vs ds:=by
 obtain⟨a,o,h1,h2,h3,h4⟩:=s.ow i _ q;cases h4 with
 |lst h4=>exact⟨a,_,es,hd,h1,h2,h3,h4⟩
def boxed:HO->Prop
 |.lst _|.dK _ _|.dT _=>True
 |_=>False
theorem Bx.boxed (h:Bx K C o d):boxed o:=by cases h<;>exact trivial
theorem cV.owned (s:cV K B0 H0 N H σ ρ)(h:own σ ρ a):∃o,(N a=some o/\boxed o)/\H0 a=none:=by
 obtain⟨i,d,h1,h2⟩:=h;obtain⟨a',o,h3,h4,h5,h6⟩:=s.ow i d h1;rw[h2]at h3;cases h3;exact⟨o,⟨h4,h6.boxed⟩,h5⟩
theorem cV.rep (s:cV K B0 H0 N H σ ρ):dJ K N σ ρ:=⟨s.tb.mono s.ext.bn,λi d b q=>by
 cases b with
 |false=>obtain⟨v,h1,h2⟩:=s.sh i d q;exact⟨v,h1,h2.mono bA⟩
 |true=>
  obtain⟨a,o,h2,h3,_,h4⟩:=s.ow i d q;exact⟨_,h2,(h4.mono bA).is h3⟩⟩
noncomputable def j7 (ρ:Env):Env:=ρ.map λx=>match x with|some (d,false)=>some (d,false)|_=>none
theorem yO {i:Nat}{d:D}{b:Bool}(h:(j7 ρ)[i]? = some (some (d,b))):b=false/\ρ[i]? = some (some (d,false)):=by
 unfold j7 at h;rw[vB]at h;cases e:ρ[i]? with
 |none=>rw[e]at h;cases h
 |some x=>
  rw[e]at h;match x,h with
  |some (d',false),h=>cases h;exact⟨rfl,rfl⟩
  |some (d',true),h=>cases h
  |none,h=>cases h
theorem cV.tbC (s:cV K B0 H0 N H σ ρ):Tb K (cW N (own σ ρ)):=λx hx c P q=>by
 have z:=s.tb.mono s.ext.bn x hx c P q;rw[bY]
 ·exact z
 ·intro y;obtain⟨o,⟨y,yb⟩,_⟩:=s.owned y;rw[z]at y;cases y;exact yb
theorem cV.repH (s:cV K B0 H0 N H σ ρ):dJ K (cW N (own σ ρ)) σ (j7 ρ):=⟨s.tbC,λi d b q=>by
 obtain⟨rfl,q2⟩:=yO q;exact s.sh i d q2⟩
theorem cV.grow (s:cV K B0 H0 N H σ ρ)(x:Ext N N' H H'):cV K B0 H0 N' H' σ ρ:=by
 have c:aM (cW N (own σ ρ)) (cW N' (own σ ρ)):=dD λa o e q=>⟨x.bn a o e,q⟩;refine⟨s.bh,s.tb,s.ext.trans x,s.len,λi d q=>?_,λi d q=>?_,s.inj⟩
 ·obtain⟨v,h1,h2⟩:=s.sh i d q;exact⟨v,h1,h2.mono c⟩
 ·obtain⟨a,o,h2,h3,h4,h5⟩:=s.ow i d q;exact⟨a,o,h2,x.bn _ _ h3,h4,h5.mono c⟩
theorem cV.growH (s:cV K B0 H0 N H σ ρ)(x:Ext (cW N (own σ ρ)) N' H H'):cV K B0 H0 (join N N') H' σ ρ/\aM N' (cW (join N N') (own σ ρ)):=by
 have x':Ext N (join N N') H H':=by
  refine⟨x.hh,dj,λa o e=>?_,λa o e=>?_⟩
  ·cases q:N a with
   |some u=>
    have:join N N' a=some u:=dj _ _ q;rw[this]at e;cases e;exact x.hh _ _ (s.ext.nh _ _ q)
   |none=>rw[cY q]at e;exact x.nh _ _ e
  ·cases q:N a with
   |some u=>
    have:join N N' a=some u:=dj _ _ q;rw[this]at e;cases e;exact .inl rfl
   |none=>
    rw[cY q]at e;rcases x.new a o e with z|z
    ·have:=bA _ _ z;rw[q]at this;cases this
    ·exact .inr z
 refine⟨s.grow x',λa o e=>?_⟩;rcases x.new a o e with z|z
 ·obtain⟨z1,z2⟩:=lQ z;rw[bY z1];exact dj _ _ z2
 ·have hN:N a=none:=s.ext.nh.free z;have:¬own σ ρ a:=λq=>by obtain⟨vs,⟨q,_⟩,_⟩:=s.owned q;rw[hN]at q;cases q
  rw[bY this,cY hN];exact e
noncomputable def unown (ρ:Env):Env:=ρ.map λx=>x.map λy=>(y.1,false)
theorem iE {i:Nat}{d:D}{b:Bool}(h:(unown ρ)[i]? = some (some (d,b))):b=false/\∃c,ρ[i]? = some (some (d,c)):=by
 unfold unown at h;rw[vB]at h;cases e:ρ[i]? with
 |none=>rw[e]at h;cases h
 |some x=>
  rw[e]at h;match x,h with
  |some (d',c),h=>cases h;exact⟨rfl,c,rfl⟩
  |none,h=>cases h
theorem kr {a:Addr}:¬own σ (unown ρ) a:=λ⟨i,d,h,_⟩=>by
 obtain⟨z,_⟩:=iE h;cases z
theorem cV.unown (s:cV K B0 H0 N H σ ρ):cV K B0 H0 N H σ (unown ρ):=by
 refine⟨s.bh,s.tb,s.ext,by unfold DL.unown;rw[vI];exact s.len,λi d q=>?_,λi d q=>?_,λi j a d e q=>?_⟩
 ·obtain⟨_,c,q⟩:=iE q;obtain⟨v,h1,h2⟩:=s.rep.at' i d c q;exact⟨v,h1,h2.mono λa o e=>by rw[bY kr];exact e⟩
 ·obtain⟨z,_⟩:=iE q;cases z
 ·obtain⟨z,_⟩:=iE q;cases z
theorem b8 {α:Type}{l:List α}{i j:Nat}{x y:α}(h:(l.set i x)[j]? = some y):(i=j/\x=y)∨(i≠j/\l[j]? = some y):=by
 by_cases e:i=j
 ·subst e;rw[List.getElem?_set]at h;split at h
  ·split at h
   ·exact .inl ⟨rfl,vK h⟩
   ·cases h
  ·contradiction
 ·rw[vC e]at h;exact .inr ⟨e,h⟩
theorem nU {α β:Type}{l:List α}{m:List β}{i:Nat}{x y:α}(h:(l.set i x)[i]? = some y)(e:l.length=m.length):i<m.length:=by
 obtain⟨h,_⟩:=vV h;rw[List.length_set]at h;omega
theorem p9 {i:Nat}{v:V}{x:OB}{a:Addr}(h:own (σ.set i (some v)) (ρ.set i x) a):(v=.ref a/\∃d,x=some (d,true))∨∃j,j≠i/\∃d,ρ[j]? = some (some (d,true))/\σ[j]? = some (some (V.ref a)):=by
 obtain⟨j,d,h1,h2⟩:=h;rcases b8 h1 with⟨e,q⟩|⟨e,q⟩
 ·rcases b8 h2 with⟨e2,q2⟩|⟨e2,q2⟩
  ·cases q2;exact .inl ⟨rfl,d,q⟩
  ·exact absurd e e2
 ·rcases b8 h2 with⟨e2,q2⟩|⟨e2,q2⟩
  ·exact absurd e2 e
  ·exact .inr ⟨j,λz=>e z.symm,d,q,q2⟩
theorem cV.bind (s:cV K B0 H0 N H σ ρ){i:Nat}{v:V}{d:D}(h:Is K (cW N (own σ ρ)) v d):cV K B0 H0 N H (σ.set i (some v)) (ρ.set i (some (d,false))):=by
 have o:∀a,own (σ.set i (some v)) (ρ.set i (some (d,false))) a->own σ ρ a:=λa q=>by
  rcases p9 q with⟨_,d',p⟩|⟨j,_,d',q1,q2⟩
  ·cases p
  ·exact⟨j,d',q1,q2⟩
 have c:aM (cW N (own σ ρ)) (cW N (own (σ.set i (some v)) (ρ.set i (some (d,false))))):=dD λa u e q=>⟨e,λz=>q (o a z)⟩;refine⟨s.bh,s.tb,s.ext,by simp[s.len],λj e q=>?_,λj e q=>?_,λj k a e f q q' h1 h2=>?_⟩
 ·rcases b8 q with⟨rfl,p⟩|⟨ne,p⟩
  ·cases p
   have hi:=nU q s.len;exact⟨v,by simp[hi],h.mono c⟩
  ·obtain⟨w,h1,h2⟩:=s.sh j e p;exact⟨w,by rw[vC ne];exact h1,h2.mono c⟩
 ·rcases b8 q with⟨rfl,p⟩|⟨ne,p⟩
  ·cases p
  ·obtain⟨a,o,h1,h2,h3,h4⟩:=s.ow j e p;exact⟨a,o,by rw[vC ne];exact h1,h2,h3,h4.mono c⟩
 ·rcases b8 q with⟨rfl,p⟩|⟨ne,p⟩
  ·cases p
  ·rcases b8 q' with⟨rfl,p'⟩|⟨IG,p'⟩
   ·cases p'
   ·rw[vC ne]at h1;rw[vC IG]at h2;exact s.inj j k a e f p p' h1 h2
theorem cV.bindOwn (s:cV K B0 H0 N H σ ρ){i:Nat}{a:Addr}{ob:HO}{dd:D}(hN:N a=some ob)(h0:H0 a=none)(G0:∀(j:Nat)(d:D),ρ[j]? = some (some (d,true))->σ[j]? ≠ some (some (V.ref a)))
  (La:∀(j:Nat)(d:D),j≠i->ρ[j]? = some (some (d,false))->∃v,σ[j]? = some (some v)/\Is K (cW N (λb=>own σ ρ b∨b=a)) v d) (O4:∀(j:Nat)(d:D),j≠i->ρ[j]? = some (some (d,true))->∃(a':Addr)(o:HO),σ[j]? = some (some (V.ref a'))/\N a'=some o/\Bx K (cW N (λb=>own σ ρ b∨b=a)) o d)
  (FJ:Bx K (cW N (λb=>own σ ρ b∨b=a)) ob dd):cV K B0 H0 N H (σ.set i (some (.ref a))) (ρ.set i (some (dd,true))):=by
 have o:∀b,own (σ.set i (some (V.ref a))) (ρ.set i (some (dd,true))) b->own σ ρ b∨b=a:=λb q=>by
  rcases p9 q with⟨p,_⟩|⟨j,_,d',q1,q2⟩
  ·cases p;exact .inr rfl
  ·exact .inl ⟨j,d',q1,q2⟩
 have c:aM (cW N (λb=>own σ ρ b∨b=a)) (cW N (own (σ.set i (some (V.ref a))) (ρ.set i (some (dd,true))))):=dD λb u e q=>⟨e,λz=>q (o b z)⟩;refine⟨s.bh,s.tb,s.ext,by simp[s.len],λj e q=>?_,λj e q=>?_,λj k b e f q q' h1 h2=>?_⟩
 ·rcases b8 q with⟨rfl,p⟩|⟨ne,p⟩
  ·cases p
  ·obtain⟨w,h1,h2⟩:=La j e (Ne.symm ne) p;exact⟨w,by rw[vC ne];exact h1,h2.mono c⟩
 ·rcases b8 q with⟨rfl,p⟩|⟨ne,p⟩
  ·cases p
   have hi:=nU q s.len;exact⟨a,ob,by simp[hi],hN,h0,FJ.mono c⟩
  ·obtain⟨a',o',h1,h2,h4⟩:=O4 j e (Ne.symm ne) p;have h3:H0 a'=none:=by
    obtain⟨a2,_,k1,_,k3,_⟩:=s.ow j e p;rw[h1]at k1;cases k1;exact k3
   exact⟨a',o',by rw[vC ne];exact h1,h2,h3,h4.mono c⟩
 ·rcases b8 q with⟨rfl,p⟩|⟨ne,p⟩
  ·rcases b8 q' with⟨rfl,p'⟩|⟨IG,p'⟩
   ·rfl
   ·rw[vC IG]at h2;have O5:V.ref a=V.ref b:=by
     rcases b8 h1 with⟨_,z⟩|⟨z,_⟩
     ·exact vK z
     ·exact absurd rfl z
    cases O5
    exact absurd h2 (G0 k f p')
  ·rcases b8 q' with⟨rfl,p'⟩|⟨IG,p'⟩
   ·rw[vC ne]at h1;have Lc:V.ref a=V.ref b:=by
     rcases b8 h2 with⟨_,z⟩|⟨z,_⟩
     ·exact vK z
     ·exact absurd rfl z
    cases Lc
    exact absurd h1 (G0 j e p)
   ·rw[vC ne]at h1;rw[vC IG]at h2;exact s.inj j k b e f p p' h1 h2
end
inductive Res where
 |nx (ρ:Env)|rt (d:D) (b:Bool)|bk (ρ:Env)|ct (ρ:Env)
abbrev FS:=Env->Option Res
def Hs (K:Frag)(B0 H0:Hp)(E:Ends):Res->Prop
 |.nx ρ=>∀σ H,tf K B0 H0 H σ ρ->E.nx σ H
 |.rt d b=>∀v H N,Ext B0 N H0 H->Is K N v d->(b=true->Gk K H0 N v d)->E.rt v H
 |.bk ρ=>∀σ H,tf K B0 H0 H σ ρ->E.bk σ H
 |.ct ρ=>∀σ H,tf K B0 H0 H σ ρ->E.ct σ H
def mV (K:Frag)(g:FS):TS:=λE σ H=>∃(B0 H0:Hp)(ρ:Env)(r:Res),tf K B0 H0 H σ ρ/\g ρ=some r/\Hs K B0 H0 E r
section
variable {K:Frag}{B0 H0 N H H':Hp}{σ:St}{ρ:Env}{E:Ends}
theorem cV.writeB (s:cV K B0 H0 N H σ ρ)(hi:ρ[i]? = some (some (d,true)))(hσ:σ[i]? = some (some (V.ref a)))(h:Bx K (cW N (own σ ρ)) ob dd):
  cV K B0 H0 (upd N a ob) (upd H a ob) σ (ρ.set i (some (dd,true))):=by
 have oa:own σ ρ a:=⟨i,d,hi,hσ⟩;obtain⟨ws,hw,h0⟩:=s.owned oa;have b0:B0 a=none:=s.bh.free h0;have o:∀b,own σ (ρ.set i (some (dd,true))) b↔own σ ρ b:=λb=>by
  constructor
  ·rintro⟨j,e,q1,q2⟩;rcases b8 q1 with⟨rfl,p⟩|⟨_,p⟩
   ·exact⟨i,d,hi,q2⟩
   ·exact⟨j,e,p,q2⟩
  ·rintro⟨j,e,q1,q2⟩;by_cases z:i=j
   ·subst z;exact⟨i,dd,by rw[List.getElem?_set_self (vV hi).1],q2⟩
   ·exact⟨j,e,by rw[vC z];exact q1,q2⟩
 have c:aM (cW N (own σ ρ)) (cW (upd N a ob) (own σ (ρ.set i (some (dd,true))))):=dD λb u e q=>by
  have ne:b≠a:=λz=>q (z ▸ oa);exact⟨by rw[a9 ne];exact e,λz=>q ((o b).mp z)⟩
 refine⟨s.bh,s.tb,⟨λb u e=>?_,λb u e=>?_,λb u e=>?_,λb u e=>?_⟩,by rw[List.length_set];exact s.len,λj e q=>?_,λj e q=>?_,λj k b e f q q' h1 h2=>?_⟩
 ·rw[a9 (λz=>by subst z;rw[h0]at e;cases e)];exact s.ext.hh _ _ e
 ·rw[a9 (λz=>by subst z;rw[b0]at e;cases e)];exact s.ext.bn _ _ e
 ·by_cases z:b=a
  ·subst z;rw[ay]at e ⊢;exact e
  ·rw[a9 z]at e ⊢;exact s.ext.nh _ _ e
 ·by_cases z:b=a
  ·subst z;exact .inr h0
  ·rw[a9 z]at e;exact s.ext.new _ _ e
 ·rcases b8 q with⟨rfl,p⟩|⟨ne,p⟩
  ·cases p
  ·obtain⟨v,h1,h2⟩:=s.sh j e p;exact⟨v,h1,h2.mono c⟩
 ·rcases b8 q with⟨rfl,p⟩|⟨ne,p⟩
  ·cases p
   exact⟨a,ob,hσ,ay,h0,h.mono c⟩
  ·obtain⟨a',o',h1,h2,h3,h4⟩:=s.ow j e p;have na:a'≠a:=λz=>by subst z;exact ne (s.inj i j _ d e hi p hσ h1)
   exact⟨a',o',h1,by rw[a9 na];exact h2,h3,h4.mono c⟩
 ·have get:∀ {j:Nat}{e:D},(ρ.set i (some (dd,true)))[j]? = some (some (e,true))->∃e',ρ[j]? = some (some (e',true)):=λ{j e} q=>by
   rcases b8 q with⟨rfl,p⟩|⟨ne,p⟩
   ·exact⟨d,hi⟩
   ·exact⟨e,p⟩
  obtain⟨e',q1⟩:=get q;obtain⟨f',q2⟩:=get q';exact s.inj j k b e' f' q1 q2 h1 h2
theorem cV.write (s:cV K B0 H0 N H σ ρ)(hi:ρ[i]? = some (some (d,true)))(hσ:σ[i]? = some (some (V.ref a)))(h:IsL K (cW N (own σ ρ)) vs ds):
  cV K B0 H0 (upd N a (.lst vs)) (upd H a (.lst vs)) σ (ρ.set i (some (.lst ds,true))):=s.writeB hi hσ (.lst h)
theorem cV.tups (s:cV K B0 H0 N H σ ρ):∀a vs,gh K N a vs->gh K (cW N (own σ ρ)) a vs:=λa vs h=>by
 have key:∀u,N a=some u->¬boxed u->cW N (own σ ρ) a=some u:=λu e hu=>by
  rw[bY λz=>?_];exact e;obtain⟨ws,⟨q,qb⟩,_⟩:=s.owned z;rw[e]at q;cases q;exact hu qb
 rcases h with (h|⟨o,h⟩)|h
 ·exact .inl (.inl (key _ h (λq=>q)))
 ·exact .inl (.inr ⟨o,key _ h (λq=>q)⟩)
 ·exact .inr h
theorem cV.flat (s:cV K B0 H0 N H σ ρ)(h:Is K N v d)(n:bd d=true):Is K (cW N (own σ ρ)) v d:=h.keepT s.tups n
theorem cV.flats (s:cV K B0 H0 N H σ ρ)(h:IsL K N v d)(n:aS d=true):IsL K (cW N (own σ ρ)) v d:=h.keepT s.tups n
theorem cV.rebase (s:cV K B0 H0 N H σ ρ):cV K (cW N (own σ ρ)) (cW H (own σ ρ)) N H σ ρ :=
 ⟨dD λa o e q=>⟨s.ext.nh _ _ e,q⟩,s.tbC,⟨bA,bA,s.ext.nh,λa o e=>by
  by_cases q:own σ ρ a
  ·exact .inr (sZ q)
  ·exact .inl (by rw[bY q];exact e)⟩,s.len,s.sh,λi d q=>by
   obtain⟨a,o,h1,h2,_,h4⟩:=s.ow i d q;exact⟨a,o,h1,h2,sZ ⟨i,d,q,h1⟩,h4⟩,s.inj⟩
theorem cV.unbase (s:cV K B0 H0 N H σ ρ)(t:cV K (cW N (own σ ρ)) (cW H (own σ ρ)) N' H' σ' ρ'):cV K B0 H0 N' H' σ' ρ':=by
 have h0:aM H0 (cW H (own σ ρ)):=λa o e=>by
  rw[bY λz=>?_];exact s.ext.hh _ _ e;obtain⟨_,_,q⟩:=s.owned z;rw[q]at e;cases e
 have b0:aM B0 (cW N (own σ ρ)):=λa o e=>by
  rw[bY λz=>?_];exact s.ext.bn _ _ e;obtain⟨_,_,q⟩:=s.owned z;rw[s.bh _ _ e]at q;cases q
 refine⟨s.bh,s.tb,⟨h0.trans t.ext.hh,b0.trans t.ext.bn,t.ext.nh,λa o e=>?_⟩,t.len,t.sh,λi d q=>?_,t.inj⟩
 ·rcases t.ext.new a o e with z|z
  ·exact s.ext.new a o (bA _ _ z)
  ·exact .inr (h0.free z)
 ·obtain⟨a,o,h1,h2,h3,h4⟩:=t.ow i d q;exact⟨a,o,h1,h2,h0.free h3,h4⟩
theorem cV.based (t:cV K B0 H0 N H σ ρ):aM B0 (cW N (own σ ρ)):=λa o e=>by
 rw[bY λz=>?_];exact t.ext.bn _ _ e;obtain⟨_,_,q⟩:=t.owned z;rw[t.bh _ _ e]at q;cases q
@[simp] noncomputable def a7 (g h:FS):FS:=λρ=>match g ρ with|some (.nx ρ')=>h ρ'|r=>r
@[simp] noncomputable def aJ:FS:=λρ=>some (.nx ρ)
@[simp] noncomputable def cZ (c:FT)(g h:FS):FS:=λρ=>match c ρ with|some true=>g ρ|some false=>h ρ|none=>none
@[simp] noncomputable def aD (f:FE):FS:=λρ=>(f ρ).map λx=>.rt x.1 x.2
@[simp] noncomputable def Dr:D->Bool
 |.dk _ _=>true
 |.dt _ _=>true
 |_=>false
@[simp] def kP (i:Nat):FS:=λρ=>match ρ[i]? with|some (some (d,b))=>some (.rt d (b && !Dr d))|_=>none
@[simp] def qE:D->Bool
 |.lst ds=>aS ds
 |_=>false
@[simp] def setE (ρ:Env)(i:Nat)(d:D)(b:Bool):Env :=
 if bd d=true then ρ.set i (some (d,false))else if b=true/\qE d=true then ρ.set i (some (d,true))else (unown ρ).set i (some (d,false))
@[simp] def bi (i:Nat)(f:FE):FS:=λρ=>(f ρ).map λx=>.nx (setE ρ i x.1 x.2)
@[simp] def Mj (i:Nat)(f:FE):FS:=λρ=>(f (j7 ρ)).map λx=>.nx (ρ.set i (some (x.1,false)))
@[simp] def nr (i:Nat)(f:FE):FS:=λρ=>match ρ[i]? with
 |some (some (.lst ds,true))=>(f ρ).bind λx=>if bd x.1=true/\ds.length<sizeLine then some (.nx (ρ.set i (some (.lst (ds++[x.1]),true))))else none
 |_=>none
theorem BC (q:mV K (a7 g h) E σ H):GD (mV K g) (mV K h) E σ H:=by
 obtain⟨B0,H0,ρ,r,s,e,p⟩:=q;unfold a7 at e;cases eg:g ρ with
 |none=>rw[eg]at e;cases e
 |some r1=>
  rw[eg]at e;cases r1 with
  |nx ρ'=>exact⟨B0,H0,ρ,.nx ρ',s,eg,λσ' H' s'=>⟨B0,H0,ρ',r,s',e,p⟩⟩
  |rt d b=>cases e;exact⟨B0,H0,ρ,_,s,eg,p⟩
  |bk ρ'=>cases e;exact⟨B0,H0,ρ,_,s,eg,p⟩
  |ct ρ'=>cases e;exact⟨B0,H0,ρ,_,s,eg,p⟩
theorem yP (q:mV K aJ E σ H):Df E σ H:=by
 obtain⟨B0,H0,ρ,r,s,e,p⟩:=q;cases e
 exact p σ H s
theorem tf.grown (s:cV K B0 H0 N H σ ρ)(h:aM H H'):tf K B0 H0 H' σ ρ:=⟨N,s.grow (.grow s.ext.nh h)⟩
theorem EJ (q:mV K (cZ c g h) E σ H):GG (wQ K c) (mV K g) (mV K h) E σ H:=by
 obtain⟨B0,H0,ρ,r,⟨N,s⟩,e,p⟩:=q;unfold cZ at e;cases ec:c ρ with
 |none=>rw[ec]at e;cases e
 |some b=>
  rw[ec]at e;refine⟨N,ρ,b,s.ext.nh,s.rep,ec,λH1 h1=>?_⟩;cases b with
  |true=>rw[if_pos rfl];exact⟨B0,H0,ρ,r,.grown s h1,e,p⟩
  |false=>rw[if_neg (by decide)];exact⟨B0,H0,ρ,r,.grown s h1,e,p⟩
theorem BD (q:mV K (aD f) E σ H):Ei (tD K f) E σ H:=by
 obtain⟨B0,H0,ρ,r,⟨N,s⟩,e,p⟩:=q;obtain⟨x,ex,e⟩:=oY e;subst e;exact⟨N,ρ,x.1,x.2,s.ext.nh,s.rep,ex,λv H1 N1 x1 i1 f1=>p v H1 N1 (s.ext.trans x1) i1 λb=>(f1 b).back s.ext.hh⟩
theorem yQ (q:mV K (kP i) E σ H):Ei (G5 i) E σ H:=by
 obtain⟨B0,H0,ρ,r,⟨N,s⟩,e,p⟩:=q;unfold kP at e;split at e
 ·rename_i d b ei;cases e
  cases b with
  |false=>
   obtain⟨v,h1,h2⟩:=s.sh i d ei;exact⟨v,h1,p v H N s.ext (h2.mono bA) (by simp)⟩
  |true=>
   obtain⟨a,o,h1,h2,h3,h4⟩:=s.ow i d ei;cases h4 with
   |lst h4=>exact⟨_,h1,p _ H N s.ext (.lst (fU.of h2) (h4.mono bA)) λ_=>⟨a,_,_,rfl,rfl,h3,h2,h4.mono bA⟩⟩
   |dk hl h4=>exact⟨_,h1,p _ H N s.ext (.dk h2 hl (h4.mono bA)) (by simp)⟩
   |dt hl h4=>exact⟨_,h1,p _ H N s.ext (.dt h2 hl (h4.mono bA)) (by simp)⟩
 ·cases e
theorem cV.setE (s:cV K B0 H0 N H σ ρ)(x:Ext N N1 H H1)(h:Is K N1 v d)(f:b=true->Gk K H N1 v d):cV K B0 H0 N1 H1 (σ.set i (some v)) (setE ρ i d b):=by
 have s1:=s.grow x;unfold DL.setE;by_cases hn:bd d=true
 ·rw[if_pos hn];exact s1.bind (s1.flat h hn)
 ·rw[if_neg hn];by_cases hb:b=true/\qE d=true
  ·rw[if_pos hb];obtain⟨a,vs,ds,rfl,rfl,ha,hN,hs⟩:=f hb.1;have M8:N a=none:=s.ext.nh.free ha;have O6:¬own σ ρ a:=λz=>by obtain⟨ws,⟨q,_⟩,_⟩:=s.owned z;rw[M8]at q;cases q
   have c:aM (cW N (own σ ρ)) (cW N1 (λb=>own σ ρ b∨b=a)):=dD λb u e q=>⟨x.bn _ _ e,λz=>z.elim q λz=>by subst z;rw[M8]at e;cases e⟩;refine s1.bindOwn hN (s.ext.hh.free ha) (λj e q z=>O6 ⟨j,e,q,z⟩) (λj e _ q=>?_) (λj e _ q=>?_) (.lst (hs.keepT (λt ts st=>?_) hb.2))
   ·obtain⟨w,h1,h2⟩:=s.sh j e q;exact⟨w,h1,h2.mono c⟩
   ·obtain⟨a',o',h1,h2,_,h4⟩:=s.ow j e q;exact⟨a',o',h1,x.bn _ _ h2,h4.mono c⟩
   ·have key:∀u,N1 t=some u->¬boxed u->cW N1 (λb=>own σ ρ b∨b=a) t=some u:=λu e hu=>by
     rw[bY λz=>?_];exact e;rcases z with z|z
     ·obtain⟨ws,⟨q,qb⟩,_⟩:=s1.owned z;rw[e]at q;cases q;exact hu qb
     ·subst z;rw[e]at hN;cases hN;exact hu trivial
    rcases st with (st|⟨o,st⟩)|st
    ·exact .inl (.inl (key _ st (λq=>q)))
    ·exact .inl (.inr ⟨o,key _ st (λq=>q)⟩)
    ·exact .inr st
  ·rw[if_neg hb];exact s1.unown.bind (h.mono λa o e=>by rw[bY kr];exact e)
theorem uB (q:mV K (bi i f) E σ H):wC (tD K f) (iT i) E σ H:=by
 obtain⟨B0,H0,ρ,r,⟨N,s⟩,e,p⟩:=q;obtain⟨x,ex,e⟩:=oY e;subst e;exact⟨N,ρ,x.1,x.2,s.ext.nh,s.rep,ex,λv H1 N1 x1 i1 f1=>p _ H1 ⟨N1,s.setE x1 i1 f1⟩⟩
theorem BE (q:mV K (nr i f) E σ H):∃(a:Addr)(us:List V),σ[i]? = some (some (V.ref a))/\H a=some (.lst us)/\Dk (tD K f) Hd σ H λxs H2=>uA (.ref a) xs H2 λ_ H3=>E.nx σ H3:=by
 obtain⟨B0,H0,ρ,r,⟨N,s⟩,e,p⟩:=q;unfold nr at e;split at e
 ·rename_i ds ei;obtain⟨x,ex,e⟩:=oX e;split at e
  ·rename_i hx;cases e
   obtain⟨a,vs,AD,z,h1,h2,h3,h4⟩:=s.owL i _ ei;cases z
   refine⟨a,vs,h1,s.ext.nh _ _ h2,N,ρ,x.1,x.2,s.ext.nh,s.rep,ex,λv H1 N1 x1 i1 f1=>⟨a,vs,v,rfl,rfl,x1.hh _ _ (s.ext.nh _ _ h2),by rw[h4.length];exact hx.2,?_⟩⟩;have s1:=s.grow x1;obtain⟨a',J5,AD,z,k1,k2,_,k4⟩:=s1.owL i _ ei;cases z
   rw[h1]at k1;cases k1;rw[x1.bn _ _ h2]at k2;cases k2;exact p σ _ ⟨_,s1.write ei h1 (k4.append (.cons (s1.flat i1 hx.1) .nil))⟩
  ·cases e
 ·cases e
end
noncomputable def yR (c:FT)(g:FS):Nat->Env->Option Res
 |0,_=>none
 |n+1,ρ=>match c ρ with
  |some true=>match g ρ with
   |some (.nx ρ')=>yR c g n ρ'
   |some (.ct ρ')=>yR c g n ρ'
   |some (.bk ρ')=>some (.nx ρ')
   |r=>r
  |some false=>some (.nx ρ)
  |none=>none
def lj (K:Frag)(J:It)(B:Hp)(ds:List D):Prop:=∀(i:Nat)(H:Hp),aM B H ->
 (∀d,ds[i]? = some d->J.go i H/\∀x H',J.yld i H x H'->∃N,Ext B N H H'/\Is K N x d)/\(ds.length<=i->J.stop i H)
def Mk (K:Frag)(f:FA):TI:=λσ H R=>∃(B:Hp)(ρ:Env)(ds:List D),aM B H/\dJ K B σ ρ/\f ρ=some ds/\∀(J:It)(H' N:Hp),Ext B N H H'->lj K J N ds->R J H'
abbrev FG:=D->Env->Option Env
def BF (K:Frag)(tg:FG)(g:TG):Prop:=∀(B0 H0 N H:Hp)(σ:St)(ρ ρ':Env)(v:V)(d:D)(Q:St->Hp->Prop),cV K B0 H0 N H σ ρ->Is K (cW N (own σ ρ)) v d->tg d ρ=some ρ' ->
 (∀σ' H',tf K B0 H0 H' σ' ρ'->Q σ' H')->g v σ H Q
@[simp] noncomputable def dI (i:Nat):FG:=λd ρ=>some (ρ.set i (some (d,false)))
theorem eY:BF K (dI i) (iT i):=by
 intro B0 H0 N H σ ρ ρ' v d Q s h e k;cases e
 exact k _ H ⟨N,s.bind h⟩
noncomputable def dO (tg:FG)(g:FS):List D->Env->Option Res
 |[],ρ=>some (.nx ρ)
 |d::ds,ρ=>(tg d ρ).bind λρ1=>match g ρ1 with
  |some (.nx ρ')=>dO tg g ds ρ'
  |some (.ct ρ')=>dO tg g ds ρ'
  |some (.bk ρ')=>some (.nx ρ')
  |r=>r
@[simp] theorem yS (tg:FG)(g:FS)(ρ:Env):dO tg g [] ρ=some (.nx ρ):=by rw[dO]
@[simp] theorem wR (tg:FG)(g:FS)(d:D)(ds:List D)(ρ:Env):dO tg g (d::ds) ρ=(tg d ρ).bind λρ1=>match g ρ1 with
  |some (.nx ρ')=>dO tg g ds ρ'
  |some (.ct ρ')=>dO tg g ds ρ'
  |some (.bk ρ')=>some (.nx ρ')
  |r=>r:=by rw[dO]
@[simp] def ll (f:FA)(tg:FG)(g:FS):FS:=λρ=>(f (j7 ρ)).bind λds=>dO tg g ds ρ
theorem qF (ht:BF K tg t)(s1:cV K B0 H0 N H1 σ ρ)(c:aM N1 (cW N (own σ ρ)))(J1:lj K J N1 ds)(e:dO tg g ds ρ=some r)(p:Hs K B0 H0 E r):
  ∃W:Nat->Nat->St->Hp->Prop,(∃m,W 0 m σ H1)/\∀i m σ H,W i m σ H->(J.stop i H/\E.nx σ H)∨(J.go i H/\∃N:St->Hp->Prop,(∀σ' H',N σ' H'->∃m',m'<m/\W (i+1) m' σ' H')/\∀x H',J.yld i H x H'->t x σ H' λσ2 H2=>mV K g { E with nx:=N,ct:=N,bk:=E.nx } σ2 H2):=by
 refine⟨λi m σ H=>∃(N:Hp)(ρ:Env),cV K B0 H0 N H σ ρ/\aM N1 (cW N (own σ ρ))/\m=ds.length - i/\i<=ds.length/\dO tg g (ds.drop i) ρ=some r,⟨ds.length,_,ρ,s1,c,rfl,uM _,e⟩,?_⟩;clear e s1 c;rintro i m σ H ⟨N,ρ,s,c,rfl,hi,e⟩;have hs:aM N1 H:=c.trans (bA.trans s.ext.nh);obtain⟨j1,j2⟩:=J1 i H hs;by_cases gi:i<ds.length
 ·obtain⟨go,yl⟩:=j1 ds[i] (by simp[gi]);rw[List.drop_eq_getElem_cons gi]at e;obtain⟨ρ1,e1,e⟩:=oX e;refine .inr ⟨go,λσ' H'=>∃(N:Hp)(ρ:Env),cV K B0 H0 N H' σ' ρ/\aM N1 (cW N (own σ' ρ))/\dO tg g (ds.drop (i+1)) ρ=some r,λσ' H' ⟨N',ρ',s',c',e'⟩=>⟨_,by omega,N',ρ',s',c',rfl,gi,e'⟩,λx H' y=>?_⟩;obtain⟨N2,x2,i2⟩:=yl x H' y;have x3:Ext (cW N (own σ ρ)) (join (cW N (own σ ρ)) N2) H H':=by
   refine⟨x2.hh,dj,λa o e=>?_,λa o e=>?_⟩
   ·cases q:cW N (own σ ρ) a with
    |some u=>rw[dj _ _ q]at e;cases e;exact x2.hh _ _ (s.ext.nh _ _ (bA _ _ q))
    |none=>rw[cY q]at e;exact x2.nh _ _ e
   ·cases q:cW N (own σ ρ) a with
    |some u=>rw[dj _ _ q]at e;cases e;exact .inl rfl
    |none=>
     rw[cY q]at e;rcases x2.new a o e with z|z
     ·rw[c _ _ z]at q;cases q
     ·exact .inr z
  obtain⟨s2,c2⟩:=s.growH x3;have c3:aM N2 (join (cW N (own σ ρ)) N2):=λa o e=>by
   rcases x2.new a o e with z|z
   ·exact dj _ _ (c _ _ z)
   ·rw[cY ((bA.trans s.ext.nh).free z)];exact e
  have i3:=i2.mono (c3.trans c2);have c4:aM N1 (cW (join N (join (cW N (own σ ρ)) N2)) (own σ ρ)):=(x2.bn.trans c3).trans c2;refine ht _ _ _ _ _ _ _ _ _ _ s2.rebase i3 e1 λσ2 H2 ⟨N4,s4⟩=>?_;cases eg:g ρ1 with
  |none=>rw[eg]at e;cases e
  |some r1=>
   rw[eg]at e;refine⟨_,_,ρ1,r1,⟨N4,s4⟩,eg,?_⟩;have back:∀ {σ':St}{H':Hp}{ρ':Env}{N':Hp},cV K _ _ N' H' σ' ρ'->cV K B0 H0 N' H' σ' ρ'/\aM N1 (cW N' (own σ' ρ')):=λt=>⟨s2.unbase t,c4.trans t.based⟩;cases r1 with
   |nx ρ'=>exact λσ' H' ⟨N',t⟩=>⟨N',ρ',(back t).1,(back t).2,e⟩
   |ct ρ'=>exact λσ' H' ⟨N',t⟩=>⟨N',ρ',(back t).1,(back t).2,e⟩
   |bk ρ'=>cases e;exact λσ' H' ⟨N',t⟩=>p σ' H' ⟨N',(back t).1⟩
   |rt d b=>
    cases e
    intro v H' N' x' i' f';have y:=s2.rebase.ext;have h0:aM H0 (cW H' (λ_=>False)):=λa o e=>by rw[bY (λz=>z)];exact x'.hh _ _ (by
     rw[bY λz=>?_];exact s2.ext.hh _ _ e;obtain⟨_,_,q⟩:=s2.owned z;rw[q]at e;cases e)
    have Qu:aM H0 (cW H' (λ_=>False)):=h0;have hH:aM H0 (cW H' (λ_=>False)):=h0;have hc:∀a,cW H' (λ_=>False) a=H' a:=λa=>bY (λz=>z);have hb:aM H0 (cW _ (own σ ρ)):=λa o e=>by
     rw[bY λz=>?_];exact s2.ext.hh _ _ e;obtain⟨_,_,q⟩:=s2.owned z;rw[q]at e;cases e
    have bb:aM B0 (cW _ (own σ ρ)):=λa o e=>by
     rw[bY λz=>?_];exact s2.ext.bn _ _ e;obtain⟨_,_,q⟩:=s2.owned z;rw[s2.bh _ _ e]at q;cases q
    refine p v H' N' ⟨hb.trans x'.hh,bb.trans x'.bn,x'.nh,λa o e=>?_⟩ i' λz=>(f' z).back hb;rcases x'.new a o e with z|z
    ·exact s2.ext.new a o (bA _ _ z)
    ·exact .inr (hb.free z)
 ·have ei:i=ds.length:=by omega
  subst ei;rw[List.drop_eq_nil_of_le (vT _)]at e;cases e
  exact .inl ⟨j2 (vT _),p σ H ⟨N,s⟩⟩
theorem BG (ht:BF K tg t)(q:mV K (ll f tg g) E σ H):En (Mk K f) t (mV K g) E σ H:=by
 obtain⟨B0,H0,ρ,r,⟨N,s⟩,e,p⟩:=q;obtain⟨ds,ef,e⟩:=oX e;refine⟨cW N (own σ ρ),j7 ρ,ds,bA.trans s.ext.nh,s.repH,ef,λJ H1 N1 x1 J1=>?_⟩;obtain⟨s1,c⟩:=s.growH x1;exact qF ht s1 c J1 e p
def Gm (K:Frag)(f:FA):TI:=λσ H R=>∃(B:Hp)(ρ:Env)(ds:List D),aM B H/\dJ K B σ ρ/\f ρ=some ds/\∀(J:It)(H' N:Hp),Ext B N H H'->(∀B',lj K J B' ds)->R J H'
@[simp] def j8 (f:FA)(tg:FG)(g:FS):FS:=λρ=>(f ρ).bind λds=>dO tg g ds ρ
theorem yT (ht:BF K tg t)(q:mV K (j8 f tg g) E σ H):En (Gm K f) t (mV K g) E σ H:=by
 obtain⟨B0,H0,ρ,r,⟨N,s⟩,e,p⟩:=q;obtain⟨ds,ef,e⟩:=oX e;refine⟨N,ρ,ds,s.ext.nh,s.rep,ef,λJ H1 N1 x1 J1=>?_⟩;exact qF ht (s.grow x1) (aM.refl _) (J1 _) e p
end DL
namespace DL
open PySem PySem.Spec PyProof.Rows L2
abbrev JE (X:Cx)(e:Expr)(f:FE):Prop:=PE X e (tD X.K f)
abbrev JT (X:Cx)(e:Expr)(f:FT):Prop:=PT X e (wQ X.K f)
abbrev JW (X:Cx)(e:Expr)(f:FT):Prop:=PW X e (wQ X.K f)
abbrev JA (X:Cx)(es:List Expr)(f:FA):Prop:=PA X es (Hr X.K f)
abbrev JS (X:Cx)(st:Stmt)(g:FS):Prop:=PS X st (mV X.K g)
abbrev pA (X:Cx)(st:List Stmt)(g:FS):Prop:=pv X st (mV X.K g)
abbrev JI (X:Cx)(tg cz:Expr)(f:FA):Prop:=PI X tg cz (Mk X.K f)
def EK (M:Model)(A:Around)(mS:List Expr)(nF:Expr)(env:PySem.Env)(iS:Value)(E:Value->Shared->Prop)(P:Shared->Prop):Shared->Prop :=
 wpAny M A (forIn mS true λc r=>if r=true then do let ok ←isTrue c env (eval c env);pure (ForInStep.yield ok)else pure (ForInStep.yield r))
  (λok s₃=>if ok=true then wpAny M A (eval nF env) (λx=>wpAny M A (call (.builtin "list.append") [iS,x]) (λ_=>P) E) E s₃ else P s₃) E
theorem pB {E:Value->Shared->Prop}(hE:∀x s,¬E x s)(I:Nat->Shared->Prop)
  (FH:∀n s,I n s->wpAny (model prog w) A (pyNext it) (λr s₁=>match r with
   |none=>R (.ok .next) s₁
   |some v=>wpAny (model prog w) A (letOwnedTupleGo mQ it v) (λ_=>wpAny (model prog w) A (assign mQ env v) (λ_=>EK (model prog w) A mS nF env iS E λs=>∃m,m<n/\I m s) E) E s₁) E s)
  (n:Nat) (h:I n s):codeAny (model prog w) A (.compLoop (.ListComp nF [⟨mQ,cz,mS,0⟩] scope pos) 0 it iS env) R s:=by
 refine codeAny_loop rfl I (λn s hI=>?_) n h;show wpAny _ A ((compTurn (.ListComp nF [⟨mQ,cz,mS,0⟩] scope pos) 0 it iS env).onRaise (λx=>do noteFrame x env;theTreesLotGoes x)) _ _ s;refine wpAny_noted (wpAny_mono (E:=E) ?_ (λ_ _ q=>q) λ_ _ z=>(hE _ _ z).elim);rw[compTurn_list];refine wX (wpAny_standAt (wX (bJ (FH n s hI) λr s₁ h₁=>?_)));cases r with
 |none=>exact wY h₁
 |some v=>
  refine wX (bJ h₁ λ_ s₁ h₁=>wX (bJ h₁ λ_ s₂ h₂=>wX (bJ h₂ λok s₃ h₃=>?_)));cases ok with
  |false=>exact wY ⟨rfl,h₃⟩
  |true=>exact wX (wX (bJ h₃ λx s₄ h₄=>wX (bJ h₄ λ_ s₅ h₅=>wY (wY ⟨rfl,h₅⟩))))
theorem Ext.upd (x:Ext B N H H')(h:H a=none)(hN:N a=none):Ext B N H (upd H' a o) :=
 ⟨λb u e=>by rw[a9 (λz=>by subst z;rw[h]at e;cases e)];exact x.hh _ _ e,x.bn,λb u e=>by rw[a9 (λz=>by subst z;rw[hN]at e;cases e)];exact x.nh _ _ e,x.new⟩
noncomputable abbrev fW (X:Cx)(N':List Str)(scope:Scope)(cl:List (Str×Addr))(C:Addr)(s₃:Shared)(H₃:Hp)(fp:List Addr):Cx :=
 { X with N:=N',s₀:=s₃,H₀:=H₃,env:=compEnvC scope cl C X.env,outer:=X.stack,stack:=X.stack,ex:=fp,fn:=λ_=>false,pn:=[],xe:=λ_ _=>False }
inductive kg (X:Cx)(N':List Str)(scope:Scope)(cl:List (Str×Addr)):Nat->List Nat->Prop where
 |nil {j:Nat}(h:N'.length=j):kg X N' scope cl j []
 |cons {j i:Nat}{r:List Nat}{x:Str}(h1:N'[j]? = some x) (h2:X.N[i]? = some x) (h3:X.env.kindOf x=some .cell∨X.env.kindOf x=some .free)
   (h4:(relabel scope X.env).names.lookup x=some .cell∨(relabel scope X.env).names.lookup x=some .free) (h5:cl.lookup x=X.env.cells.lookup x) (t:kg X N' scope cl (j+1) r):kg X N' scope cl j (i::r)
theorem kg.len:∀ {j:Nat}{cap:List Nat},kg X N' scope cl j cap->N'.length=j+cap.length
 |_,_,.nil h=>by rw[h];rfl
 |j,i::r,.cons _ _ _ _ _ t=>by rw[t.len,vE];omega
theorem kg.get:∀ {j:Nat}{cap:List Nat}{k i:Nat},kg X N' scope cl j cap->cap[k]? = some i->∃x,N'[j+k]? = some x/\X.N[i]? = some x/\(X.env.kindOf x=some .cell∨X.env.kindOf x=some .free) /\
  ((relabel scope X.env).names.lookup x=some .cell∨(relabel scope X.env).names.lookup x=some .free)/\cl.lookup x=X.env.cells.lookup x
 |_,_,_,_,.nil _,e=>by simp at e
 |j,_,0,_,.cons h1 h2 h3 h4 h5 _,e=>by simp at e;subst e;exact⟨_,h1,h2,h3,h4,h5⟩
 |j,_,k+1,i,.cons _ _ _ _ _ t,e=>by
  obtain⟨x,q,r⟩:=t.get (k:=k) (i:=i) (by simpa using e);exact⟨x,by rw[show j+(k+1)=j+1+k by omega];exact q,r⟩
structure CompSc (X:Cx)(scope:Scope)(cl:List (Str×Addr)):Prop where
 clos:closureFor scope X.env=pure cl
 nocell:∀y∈scope.names,y.2≠.cell
 kind:scope.kind=.function
 names:∀y∈scope.names,y.2=.local->scope.names.lookup y.1=some .local
 sub:∀x c,cl.lookup x=some c->X.env.cells.lookup x=some c
 has:∀x,((relabel scope X.env).names.lookup x=some .cell∨(relabel scope X.env).names.lookup x=some .free)->∃c,cl.lookup x=some c
noncomputable def dE:List (Str×NameKind)->List (Str×Addr)->List (Str×Addr)->List (Str×Addr)
 |[],_,cs=>cs
 | (n,k)::r,cells,cs=>dE r cells (if k == .free then (match cells.lookup n with|some c=>(n,c)::cs|none=>cs)else cs)
theorem wS:∀(names:List (Str×NameKind))(cs:List (Str×Addr)),(∀y∈names,y.2=.free->(env.cells.lookup y.1).isSome=true) ->
    (do let mut cs:=cs
        for (name,kind)in names do
          if kind == .free then cs:=(name,←cellOf env name)::cs
        return cs:Sem (List (Str×Addr)))=pure (dE names env.cells cs):=by
  intro names;induction names with
  |nil=>intro cs _;rfl
  |cons y r ih=>
    intro cs h;obtain⟨n,k⟩:=y;have IJ:=λcs=>ih cs λy hy=>h y (mZ _ hy);by_cases hk:k=.free
    . subst hk;have hc:=h (n,.free) mX rfl;cases q:env.cells.lookup n with
      |none=>rw[q]at hc;cases hc
      |some c=>
        have e1:dE ((n,.free)::r) env.cells cs=dE r env.cells ((n,c)::cs):=by
          rw[dE,q];rfl
        rw[e1,←IJ ((n,c)::cs)];have e2:cellOf env n=pure c:=by unfold cellOf;rw[q]
        simp only[List.forIn_cons,beq_self_eq_true,if_true,e2];rfl
    . have hb:(k == NameKind.free)=false:=by simpa using hk
      have e1:dE ((n,k)::r) env.cells cs=dE r env.cells cs:=by rw[dE,hb];rfl
      rw[e1,←IJ cs];simp only[List.forIn_cons,hb,uW,if_false];rfl
theorem lR:∀(names:List (Str×NameKind))(cs:List (Str×Addr)),(∀y d,cs.lookup y=some d->cells.lookup y=some d)->(dE names cells cs).lookup x=some c->cells.lookup x=some c
 |[],cs,h,e=>h x c e
 | (n,k)::r,cs,h,e=>by
  rw[dE]at e;refine lR r _ (λy d q=>?_) e;split at q
  ·split at q
   ·rename_i c' ec;rw[List.lookup_cons]at q;split at q
    ·rename_i hy;cases q
     rw[eq_of_beq hy];exact ec
    ·exact h y d q
   ·exact h y d q
  ·exact h y d q
theorem nV:∀(names:List (Str×NameKind))(cs:List (Str×Addr)),(cs.lookup x).isSome=true->((dE names cells cs).lookup x).isSome=true
 |[],cs,h=>h
 | (n,k)::r,cs,h=>by
  rw[dE];refine nV r _ ?_;split
  ·split
   ·rw[List.lookup_cons];split
    ·rfl
    ·exact h
   ·exact h
  ·exact h
theorem lS:∀(names:List (Str×NameKind))(cs:List (Str×Addr)),(x,NameKind.free)∈names->(cells.lookup x).isSome=true->((dE names cells cs).lookup x).isSome=true
 | (n,k)::r,cs,hm,hc=>by
  rw[dE];rcases vP hm with e|e
  ·cases e
   refine nV r _ ?_;cases q:cells.lookup x with
   |none=>rw[q]at hc;cases hc
   |some c=>simp
  ·exact lS r _ e hc
theorem jh {α:Type}{x:Str}{k:α}:∀ {l:List (Str×α)},l.lookup x=some k->(x,k)∈l
 | (n,j)::r,h=>by
  rw[List.lookup_cons]at h;split at h
  ·rename_i e;cases h
   rw[eq_of_beq e];exact mX
  ·exact mZ _ (jh h)
theorem EL {X:Cx}{scope:Scope}(h1:∀y∈scope.names,y.2≠.cell)(h2:scope.kind=.function)(h3:∀y∈scope.names,y.2=.local->scope.names.lookup y.1=some .local)(Lg:(scope.names.all λy=>!(y.2 == NameKind.free) || (X.env.cells.lookup y.1).isSome)=true):
  CompSc X scope (dE scope.names X.env.cells []):=by
 have h4:∀y∈scope.names,y.2=.free->(X.env.cells.lookup y.1).isSome=true:=λy hy e=>by
  have:=uR Lg y hy;rw[e]at this;simpa using this
 have frees:∀x,((relabel scope X.env).names.lookup x=some .cell∨(relabel scope X.env).names.lookup x=some .free)->(x,NameKind.free)∈scope.names:=λx h=>by
  have:∃k,(x,k)∈(relabel scope X.env).names/\(k=.cell∨k=.free):=by
   rcases h with h|h
   ·exact⟨_,jh h,.inl rfl⟩
   ·exact⟨_,jh h,.inr rfl⟩
  obtain⟨k,hm,hk⟩:=this;obtain⟨⟨n,j⟩,hj,e⟩:=vO hm;dsimp only at e;split at e
  ·rename_i hc;rw[vD,vD]at hc;cases e
   rw[←eq_of_beq hc.1.1];exact hj
  ·cases e
   rcases hk with rfl|rfl
   ·exact absurd rfl (h1 _ hj)
   ·exact hj
 exact⟨wS scope.names [] h4,h1,h2,h3,λx c e=>lR scope.names [] (λy d q=>by cases q) e,λx h=>by
  have:=lS (x:=x) scope.names [] (frees x h) (h4 _ (frees x h) rfl);exact Option.isSome_iff_exists.mp this⟩
theorem BH {scope:Scope}{cells:List (Str×Addr)}{x:Str}(h:(x,NameKind.free)∈scope.names)(hc:(cells.lookup x).isSome=true):(dE scope.names cells []).lookup x=cells.lookup x:=by
 obtain⟨c,e⟩:=Option.isSome_iff_exists.mp (lS (x:=x) scope.names [] h hc);rw[e,lR scope.names [] (λy d q=>by cases q) e]
noncomputable def wT (nT:Nat)(cap:List Nat)(σ:St):St:=List.replicate nT none++cap.map λi=>(σ[i]?).join
noncomputable def eZ (nT:Nat)(cap:List Nat)(ρ:Env):Env:=List.replicate nT none++cap.map λi=>match ρ[i]? with|some (some (d,_))=>some (d,false)|_=>none
theorem uC {α:Type}{nT:Nat}{cap:List Nat}{f:Nat->Option α}{j:Nat}{v:α}(h:(List.replicate nT none++cap.map f)[j]? = some (some v)):∃k i,j=nT+k/\cap[k]? = some i/\f i=some v:=by
 by_cases hj:j<nT
 ·rw[List.getElem?_append_left (by simpa using hj),List.getElem?_replicate,if_pos hj]at h;cases h
 ·rw[List.getElem?_append_right (by simpa using Nat.not_lt.mp hj),List.length_replicate,vB]at h;obtain⟨i,h1,h2⟩:=oY h;exact⟨j - nT,i,by omega,h1,h2⟩
theorem BI {α:Type}{nT:Nat}{cap:List Nat}{f:Nat->Option α}{k i:Nat}{v:α}(h1:cap[k]? = some i)(h2:f i=some v):(List.replicate nT none++cap.map f)[nT+k]? = some (some v):=by
 rw[List.getElem?_append_right (by simp),List.length_replicate,vB,Nat.add_sub_cancel_left,h1];simp[h2]
theorem dJ.caps {K:Frag}{B:Hp}{σ:St}{ρ:Env}{nT:Nat}{cap:List Nat}(h:dJ K B σ ρ):dJ K B (wT nT cap σ) (eZ nT cap ρ):=⟨h.tb,λj d b q=>by
 obtain⟨k,i,rfl,h1,h2⟩:=uC q;split at h2
 ·rename_i d' b' e;cases h2
  obtain⟨v,g1,g2⟩:=h.at' i _ _ e;exact⟨v,BI h1 (by rw[g1];rfl),g2⟩
 ·cases h2⟩
noncomputable def eK (tg:FG)(c:FT)(fe:FE)(ρ:Env):List D->Option (List D)
 |[]=>some []
 |d::r=>(tg d ρ).bind λρ1=>(c ρ1).bind λb=>if b=true then (fe ρ1).bind λx=>(eK tg c fe ρ r).map (x.1 :: ·)else eK tg c fe ρ r
@[simp] theorem Gn (tg:FG)(c:FT)(fe:FE)(ρ:Env):eK tg c fe ρ []=some []:=by rw[eK]
@[simp] theorem tm (tg:FG)(c:FT)(fe:FE)(ρ:Env)(d:D)(r:List D):eK tg c fe ρ (d::r)=(tg d ρ).bind λρ1=>(c ρ1).bind λb=>if b=true then (fe ρ1).bind λx=>(eK tg c fe ρ r).map (x.1 :: ·)else eK tg c fe ρ r:=by rw[eK]
@[simp] def bB (fi:FA)(nT:Nat)(cap:List Nat)(tg:FG)(c:FT)(fe:FE):FE:=λρ=>(fi ρ).bind λau=>if au.length<=sizeLine then (eK tg c fe (eZ nT cap ρ) au).map λds=>(.lst ds,true)else none
def Ds (K:Frag)(n:Nat)(tg:FG)(g:TG):Prop:=∀(B H:Hp)(σ:St)(ρ ρ1:Env)(v:V)(d:D)(Q:St->Hp->Prop),(∀i,i<n->ρ[i]? = some none)->dJ K B σ ρ->aM B H->Is K B v d->tg d ρ=some ρ1 ->
 ρ.length=σ.length->(∀σ1,dJ K B σ1 ρ1->(∀B',dJ K B' σ ρ->dJ K B' σ1 ρ)->ρ.length=σ1.length->Q σ1 H)->g v σ H Q
theorem qG {K:Frag}{n i:Nat}(hi:i<n):Ds K n (dI i) (iT i):=by
 intro B H σ ρ ρ1 v d Q cl rep s h e hl k;cases e
 have xX:i<σ.length:=by
  have:=(vV (cl i hi)).1;omega
 refine k _ ⟨rep.tb,λj e b q=>?_⟩ ?_ (by simpa using hl)
 ·rcases b8 q with⟨rfl,p⟩|⟨ne,p⟩
  ·cases p
   exact⟨v,by simp[xX],h⟩
  ·obtain⟨w,h1,h2⟩:=rep.at' j e b p;exact⟨w,by rw[vC ne];exact h1,h2⟩
 ·intro B' IK;refine⟨IK.tb,λj e b q=>?_⟩;obtain⟨w,h1,h2⟩:=IK.at' j e b q;have ne:i≠j:=λz=>by subst z;rw[cl i hi]at q;cases q
  exact⟨w,by rw[vC ne];exact h1,h2⟩
def JC (X:Cx)(mS:List Expr)(c:FT):Prop:=∀(aa:List (Addr×Obj))(s:Shared)(σ:St)(H:Hp)(Q:Bool->Hp->Prop),Inv X aa σ H s->wQ X.K c σ H Q ->
 wq X (forIn mS true λc r=>if r=true then do let ok ←isTrue c X.env (eval c X.env);pure (ForInStep.yield ok)else pure (ForInStep.yield r)) (TP X aa σ Q) X.xe s
@[simp] noncomputable def cH:FT:=λ_=>some true
theorem cO:JC X [] cH:=by
 intro aa s σ H Q I h;obtain⟨B,ρ,c,sB,rep,e,q⟩:=h;cases e
 exact wpAny_tests_nil ⟨H,I,q H (.refl H)⟩
theorem ku (h:JT X e f):JC X [e] f:=λaa s σ H Q I q=>wpAny_tests_one (h aa s σ H Q I q)
inductive CI (Y:Cx)(tn:Nat->Heap->Prop)(fp:List Addr)(N1 H2:Hp)(κ:Env)(a:Addr)(l:List D->Option (List D))(au ds:List D)(s:Shared):Nat->Prop
 |mk (i:Nat) (N:Hp) (vs:List V) (es r:List D) (σ:St) (H:Hp) (I:Inv Y [] σ H s) (ti:tn i s.heap) (hn:∀b∈fp,H b=none) (hi:i<=au.length) (rp:dJ Y.K N1 σ κ) (hl:κ.length=σ.length)
   (x:Ext N1 N H2 H) (n0:N a=none) (h0:H a=some (.lst vs)) (vl:vs.length<=i) (iv:IsL Y.K N vs es) (er:l (au.drop i)=some r) (ed:es++r=ds):CI Y tn fp N1 H2 κ a l au ds s (au.length - i)
theorem Ext.both (x:Ext N1 N H2 H)(y:Ext N1 N' H H'):Ext N (join N N') H H'/\aM N' (join N N'):=by
 refine⟨⟨y.hh,dj,λa o e=>?_,λa o e=>?_⟩,λa o e=>?_⟩
 ·cases z:N a with
  |some u'=>rw[dj _ _ z]at e;cases e;exact y.hh _ _ (x.nh _ _ z)
  |none=>rw[cY z]at e;exact y.nh _ _ e
 ·cases z:N a with
  |some u'=>rw[dj _ _ z]at e;cases e;exact .inl rfl
  |none=>
   rw[cY z]at e;exact(y.new a o e).elim (λz'=>by rw[x.bn _ _ z']at z;cases z) .inr
 ·exact(y.new a o e).elim (λz=>dj _ _ (x.bn _ _ z)) λz=>by rw[cY (x.nh.free z)];exact e
theorem Ext.off (x:Ext B N H H')(h:B a=none)(h':H a=some o):N a=none:=by
 cases z:N a with
 |none=>rfl
 |some u=>
  rcases x.new _ _ z with z|z
  ·rw[h]at z;cases z
  ·rw[h']at z;cases z
theorem wU {Y:Cx}(hU:Y.calm=true)(hE:∀x s,¬Y.xe x s)(hg:PG Y tg g)(sJ:Ds Y.K nT lC g)(hc:JC Y mS fc)(he:JE Y nF fe)(T:Turn Y.prog Y.w Y.K tg J fp it tn)(IL:∀i,i<nT->κ[i]? = some none)
  (J1:lj Y.K J N1 au) (hsz:au.length<=sizeLine) (hD:H2 a=none) (Lh:∀H',(∀b∈fp,H' b=none)->∀b∈fp,j5 Y [] H' b)
  (hR:∀s4 σ' H' N vs,Inv Y [] σ' H' s4->Ext N1 N H2 H'->N a=none->H' a=some (.lst vs)->IsL Y.K N vs ds->R (.ok .next) s4) (h:CI Y tn fp N1 H2 κ a (eK lC fc fe κ) au ds s au.length):
  codeAny (model Y.prog Y.w) Y.A (.compLoop (.ListComp nF [⟨tg,cz,mS,0⟩] scope pos) 0 (.ref it) (.ref a) Y.env) R s:=by
 refine pB hE (λn s=>CI Y tn fp N1 H2 κ a (eK lC fc fe κ) au ds s n) (λn s' h=>?_) _ h;obtain⟨i,N,vs,es,r,σ',H',I',ti,hn,hi,rp,bD,x,J6,IM,FN,IN,er,J7⟩:=h;have sH:aM N1 H':=x.bn.trans x.nh;by_cases gi:i<au.length
 ·obtain⟨go,yl⟩:=(J1 i H' sH).1 au[i] (by simp[gi]);refine bJ (T.item Y rfl rfl rfl hU i [] s' σ' H' Y.xe I' (Lh _ hn) ti go) λq s4 ⟨u,eu,hq⟩=>?_;subst eu;refine bJ hq λ_ s5 ⟨xv,H5,I5,rx,y5,t5,KU⟩=>?_;obtain⟨N5,x5,i5⟩:=yl xv H5 y5;obtain⟨x6,c5⟩:=x.both x5;have M9:(join N N5) a=none:=x6.off J6 IM;have J8:aM (join N N5) H5:=x6.nh;rw[List.drop_eq_getElem_cons gi]at er;unfold eK at er;obtain⟨ρ1,e1,er⟩:=oX er;obtain⟨b,e2,er⟩:=oX er;have hW:∀(s9:Shared)(σ9:St)(H9 N9:Hp)(IQ:List V)(J9 r9:List D),Inv Y (km fp s5.heap) σ9 H9 s9->dJ Y.K N1 σ9 κ->κ.length=σ9.length->Ext N1 N9 H2 H9->N9 a=none->H9 a=some (.lst IQ) ->
    IQ.length<=i+1->IsL Y.K N9 IQ J9->eK lC fc fe κ (au.drop (i+1))=some r9->J9++r9=ds->∃m,m<au.length - i/\CI Y tn fp N1 H2 κ a (eK lC fc fe κ) au ds s9 m:=λs9 σ9 H9 N9 IQ J9 r9 I9 O7 l9 x9 n9 h9 v9 i9 O8 O9=>
   ⟨_,by omega,i+1,N9,IQ,J9,r9,σ9,H9,I9.pins_of λp hp=>by simp at hp,T.keep _ _ _ t5 λb hb o e=>(I9.pin (b,o) (mY _ (gF hb e))).1,λb hb=>by
    obtain⟨o,e,d⟩:=T.obj _ _ t5 b hb;exact(I9.pin (b,o) (mY _ (gF hb e))).2.1,gi,O7,l9,x9,n9,h9,v9,i9,O8,O9⟩
  refine bJ (hg (km fp s5.heap) s5 σ' H5 xv u (λσ6 H6=>H6=H5/\dJ Y.K (join N N5) σ6 ρ1/\dJ Y.K N1 σ6 κ/\κ.length=σ6.length) (I5.pinned (Lh _ KU) (T.obj _ _ t5)) rx
   (sJ (join N N5) H5 σ' κ ρ1 xv au[i] _ IL (rp.mono (x.bn.trans dj)) J8 (i5.mono c5) e1 bD λσ1 r1 r2 l1=>⟨rfl,r1,r2 N1 rp,l1⟩)) λ_ s6 ⟨σ6,H6,I6,eH,MA,MB,l6⟩=>?_
  subst eH;have Li:H6 a=some (.lst vs):=x5.hh _ _ IM;refine bJ (hc _ s6 σ6 H6 (λc H7=>c=b/\aM H6 H7) I6 ⟨join N N5,ρ1,b,J8,MA,e2,λH7 h7=>⟨rfl,h7⟩⟩) λok s7 ⟨H7,I7,eb,h7⟩=>?_;subst eb;have x7:Ext N1 (join N N5) H2 H7:=(x.trans x6).trans (.grow J8 h7);cases ok with
  |false=>
   rw[if_neg (by decide)]at er ⊢;exact hW s7 σ6 H7 (join N N5) vs es r I7 MB l6 x7 M9 (h7 _ _ Li) (Nat.le_succ_of_le FN) (IN.mono dj) er J7
  |true=>
   rw[if_pos rfl]at er ⊢;obtain⟨y,e3,er⟩:=oX er;obtain⟨r',e4,er⟩:=oY er;subst er;refine bJ (he _ s7 σ6 H7 (λv H8=>∃N8,Ext (join N N5) N8 H7 H8/\Is Y.K N8 v y.1) I7 ⟨join N N5,ρ1,y.1,y.2,J8.trans h7,MA,e3,λv H8 N8 x8 i8 _=>⟨N8,x8,i8⟩⟩) λw8 s8 ⟨v8,H8,I8,r8,N8,x8,i8⟩=>?_;refine bJ (nP _ s8 σ6 H8 (.ref a) [v8] (.ref a) [w8] (λ_ H9=>H9=upd H8 a (.lst (vs++[v8]))) I8 rfl (.cons r8 .nil) ⟨_,vs,v8,rfl,rfl,x8.hh _ _ (h7 _ _ Li),by omega,rfl⟩) λ_ s9 ⟨_,H9,I9,_,e9⟩=>?_;subst e9;have MC:=x8.off M9 (h7 _ _ Li);exact hW s9 σ6 _ N8 (vs++[v8]) (es++[y.1]) r' I9 MB l6 ((x7.trans x8).upd hD MC) MC ay (by rw[vA,List.length_singleton];omega) ((IN.mono (dj.trans x8.bn)).append (.cons i8 .nil)) e4 (by rw[List.append_assoc];exact J7)
 ·obtain rfl:i=au.length:=by omega
  rw[List.drop_eq_nil_of_le (vT _)]at er;cases er
  rw[uQ]at J7;subst J7;refine bJ (T.done Y rfl rfl rfl hU au.length [] s' σ' H' Y.xe I' (Lh _ hn) ti ((J1 _ H' sH).2 (vT _))) λq s4 ⟨hq,I9⟩=>?_;subst hq;exact hR s4 σ' H' N vs I9 x J6 IM IN
theorem lU {X:Cx}(hU:X.calm=true){tg cz nF:Expr}{mS:List Expr}{scope:Scope}{pos:Pos}{cl:List (Str×Addr)}{N':List Str}{nT:Nat}{cap:List Nat}{lC:FG}{g:TG}{fc:FT}{fe:FE}
  (S:CompSc X scope cl) (cp:kg X N' scope cl nT cap)
  (hg:∀C s H fp,PG (fW X N' scope cl C s H fp) tg g) (sJ:Ds X.K nT lC g) (hc:∀C s H fp,JC (fW X N' scope cl C s H fp) mS fc) (he:∀C s H fp,JE (fW X N' scope cl C s H fp) nF fe)
  {aa:List (Addr×Obj)}{σ:St}{H2:Hp}{s2:Shared}{it:Addr}{fp:List Addr}{tn:Nat->Heap->Prop}{J:It}{N1:Hp}{ρ:Env}{au ds:List D}{E:Value->Shared->Prop}
  (I2:Inv X aa σ H2 s2) (T:Turn X.prog X.w X.K tg J fp it tn) (uv:tn 0 s2.heap) (f2:∀b∈fp,j5 X aa H2 b)
  (rep:dJ X.K N1 σ ρ) (sN:aM N1 H2) (J1:lj X.K J N1 au) (hsz:au.length<=sizeLine) (ec:eK lC fc fe (eZ nT cap ρ) au=some ds) {RR:Value->Addr->Result->Shared->Prop}
  (OA:∀(Dd C:Addr)(s':Shared)(H' N:Hp)(vs:List V)(m:Str->Option Value),H2 Dd=none->Inv X aa σ H' s'->s'.heap.Ns C m->j5 X aa H' C->Ext N1 N H2 H'->N Dd=some (.lst vs)->IsL X.K N vs ds->RR (.ref Dd) C (.ok .next) s'):
  wq X (newList []) (λiS s₃=>wq X (newFunctionEnv scope X.env.globals cl [] X.env.qual none .none (some X.env)) (λIS s₄=>
   codeAny (model X.prog X.w) X.A (.compStart (.ListComp nF [⟨tg,cz,mS,0⟩] scope pos) 0 (.ref it) iS { IS with scope:=relabel scope X.env }) (RR iS IS.locals) s₄) E s₃) E s2:=by
 refine wpAny_newObj_type (wpAny_newFunctionEnv S.nocell (by intro y hy;simp at hy) (λh₁ uw hsb₁=>?_) S.kind);dsimp only at uw hsb₁ ⊢;have hD:H2 s2.heap.objs.size=none:=I2.fresh;have I3:Inv X aa σ (upd H2 s2.heap.objs.size (.lst [])) { s2 with heap:=s2.heap.push { cls:=.type "list",dict:=none,data:=.seq ([]:List Value).toArray } }:=I2.lnew (t':=s2.toks) (ys:=[]) (its:=[]) .nil (uM _);generalize hH3:s2.heap.push { cls:=.type "list",dict:=none,data:=.seq ([]:List Value).toArray }=g3 at uw hsb₁ I3 ⊢;have hC:g3.objs.size=s2.heap.objs.size+1:=by rw[←hH3,Heap.size_push]
 have CT:∀b o,s2.heap.get? b=some o->g3.get? b=some o:=λb o e=>hH3 ▸ vZ _ e;have yc:∀b o,g3.get? b=some o->h₁.get? b=some o:=λb o e=>hsb₁.extBut b o (vS (vX e)) (vZ _ e);have Gw:∀b o,g3.get? b=some o->b≠g3.objs.size:=λb o e=>vS (vX e);have MD:∀b∈fp,∃o,s2.heap.get? b=some o:=λb hb=>let ⟨o,e,_⟩:=T.obj 0 s2.heap uv b hb;⟨o,e⟩;have OC:∀b∈fp,b≠s2.heap.objs.size:=λb hb=>let ⟨o,e⟩:=MD b hb;vS (vX e);have ME:∀b∈fp,b≠g3.objs.size:=λb hb=>let ⟨o,e⟩:=MD b hb;Gw b o (CT b o e);have MF:∀x c,X.env.cells.lookup x=some c->c≠g3.objs.size:=λx c e=>by
  obtain⟨v,z⟩:=I3.cell x c e;exact vS z.lt
 have OD:(upd H2 s2.heap.objs.size (HO.lst [])) g3.objs.size=none:=I3.hok.fresh (vT _);have stk:∀b∈yj X.stack,∃o,s2.heap.get? b=some o:=λb hb=>by
  obtain⟨_,o,ho,_⟩:=(I2.stack).mem hb;exact⟨o,ho⟩
 -- the block's context
 let Y:Cx:=fW X N' scope cl g3.objs.size { s2 with heap:=g3 } (upd H2 s2.heap.objs.size (.lst [])) fp;have ok:Y.Ok:=by
  refine⟨I2.ok.mod,?_,I2.ok.glob,I2.ok.blt,vT _,λx y c e1 e2=>I2.ok.inj x y c (S.sub x c e1) (S.sub y c e2),λx h=>S.has x h,λx c h=>absurd h uY,I2.ok.hd,I2.ok.frames,.inl rfl,λb hb=>⟨ME b hb,λx c e=>(f2 b hb).2.2.2.2.1 x c (S.sub x c e)⟩,λb o e=>?_,?_,λb o e hb=>?_,λb hb hz=>?_,I3.stack,λb hb=>I3.stkFree b hb⟩
  ·show(relabel scope X.env).kind=.function;exact S.kind
  ·exact I3.bs b o e
  ·exact vR I3.ok.bsz I3.sz
  ·have h1:=(f2 b hb).2.2.2.1;rcases h1 with z|z
   ·exact I2.ok.noex b o e z
   ·exact absurd (vQ (vX e) (vR I2.ok.bsz z)) (Nat.lt_irrefl _)
  ·rcases vP (I2.stkSub b hz)with z|z
   ·exact(f2 b hb).2.1 z
   ·exact(f2 b hb).2.2.1 z
 have I4:Inv Y [] (wT nT cap σ) (upd H2 s2.heap.objs.size (.lst [])) { s2 with heap:=h₁,toks:=s2.toks+([]:List (Str×Value)).length }:=by
  refine⟨ok,rfl,I2.bare,Un.kept yc,⟨_,uw,λj x v e1 e2 e3=>?_⟩,λx c e=>?_,OD,λx c e=>I3.freeC x c (S.sub x c e),λp hp=>absurd (show p∈[]from hp) List.not_mem_nil,I3.hok.kept yc,?_⟩
  ·obtain⟨k,i,rfl,h1,h2⟩:=uC e2;obtain⟨y,g1,g2,MG,g4,g5⟩:=cp.get h1;have MH:N'[nT+k]? = some x:=e1;rw[g1]at MH;cases MH;have Lc:σ[i]? = some (some v):=by
    cases q:σ[i]? with
    |none=>rw[q]at h2;cases h2
    |some z=>rw[q]at h2;have:z=some v:=h2;rw[this]
   obtain⟨m,_,hl⟩:=I3.loc;obtain⟨u,r,l⟩:=hl i _ v g2 Lc (MG.elim (λz=>.inr (.inl z)) λz=>.inr (.inr z));refine⟨u,r,?_⟩;rcases l with⟨l,_⟩|⟨_,c,lc,ic⟩
   ·rcases MG with z|z<;>(rw[z]at l;cases l)
   ·refine .inr ⟨g4,c,by show cl.lookup _=some c;rw[g5];exact lc,?_⟩;obtain⟨o,ho,hd⟩:=ic;exact⟨o,yc _ _ ho,hd⟩
  ·obtain⟨v,o,ho,hd⟩:=I3.cell x c (S.sub x c e);exact⟨v,o,yc _ _ ho,hd⟩
  ·show(wT nT cap σ).length=N'.length;unfold wT;rw[cp.len];simp
 have xY:∀s₃:Shared,s₃={ s2 with heap:=h₁,toks:=s2.toks+([]:List (Str×Value)).length }->codeAny (model Y.prog Y.w) Y.A (.compLoop (.ListComp nF [⟨tg,cz,mS,0⟩] scope pos) 0 (.ref it) (.ref s2.heap.objs.size) Y.env) (RR (.ref s2.heap.objs.size) g3.objs.size) s₃:=by
  rintro s₃ rfl;refine wU (Y:=Y) hU (λ_ _ z=>z) (hg _ _ _ _) sJ (hc _ _ _ _) (he _ _ _ _) T (λi hi=>?_) J1 hsz hD (λH' hn b hb=>⟨hn b hb,ME b hb,ok.exfs b hb,.inl hb,λx c e=>(f2 b hb).2.2.2.2.1 x c (S.sub x c e),λp hp=>absurd (show p∈[]from hp) List.not_mem_nil⟩) (λs4 σ' H' N vs I9 x J6 IM IN=>?_)
   ⟨0,N1,[],[],ds,wT nT cap σ,_,I4,T.keep _ _ _ uv λb hb o e=>yc _ _ (CT _ _ e),λb hb=>?_,uM _,rep.caps,?_,(Ext.refl sN).upd hD (sN.free hD),sN.free hD,ay,uM _,.nil,by simpa using ec,rfl⟩
  ·unfold eZ;rw[List.getElem?_append_left (by simpa using hi),List.getElem?_replicate,if_pos hi]
  ·obtain⟨m,hm,_⟩:=I9.loc;have k:aM N (upd N s2.heap.objs.size (.lst vs)):=λa o e=>by rw[a9 (λz=>by subst z;rw[J6]at e;cases e)];exact e
   refine OA s2.heap.objs.size g3.objs.size s4 H' (upd N s2.heap.objs.size (.lst vs)) vs m hD (I2.call' (ch:=fp) I9.os ((Un.laid CT (vT _) hD).trans I9.base) I9.hok I9.bare λb hb=>⟨(f2 b hb).2.2.2.1,(f2 b hb).2.1,(f2 b hb).2.2.2.2.1,(f2 b hb).2.2.2.2.2⟩) hm (I2.fpOk (by rw[hC];exact Nat.le_succ _) I9.free) ⟨x.hh,x.bn.trans k,λa o e=>?_,λa o e=>?_⟩ ay (IN.mono k)
   ·by_cases z:a=s2.heap.objs.size
    ·subst z;rw[ay]at e;cases e;exact IM
    ·rw[a9 z]at e;exact x.nh _ _ e
   ·by_cases z:a=s2.heap.objs.size
    ·subst z;exact .inr hD
    ·rw[a9 z]at e;exact x.new _ _ e
  ·rw[a9 (OC b hb)];exact(f2 b hb).1
  ·unfold eZ wT;simp
 exact codeAny_compStart_list (xY _ rfl) (T.self _ 0 _ _ _ (T.keep _ _ _ uv λb hb o e=>yc _ _ (CT _ _ e)) (xY _ rfl))
theorem BJ (hU:X.calm=true) 
  (S:CompSc X scope cl) (cp:kg X N' scope cl nT cap) (hi:JI X tg cz fi)
  (hg:∀C s H fp,PG (fW X N' scope cl C s H fp) tg g) (sJ:Ds X.K nT lC g) (hc:∀C s H fp,JC (fW X N' scope cl C s H fp) mS fc) (he:∀C s H fp,JE (fW X N' scope cl C s H fp) nF fe)
  (hs:∀x,foldedSetIterable cz X.env x=pure x:=by intro _;rfl):
  JE X (.ListComp nF [⟨tg,cz,mS,0⟩] scope pos) (bB fi nT cap lC fc fe):=by
 intro aa s σ H Q I h;obtain⟨B,ρ,d,b,sB,rep,e,q⟩:=h;obtain⟨au,ei,e⟩:=oX e;have hsz:au.length<=sizeLine:=Decidable.byContradiction λz=>by rw[if_neg z]at e;cases e
 rw[if_pos hsz]at e;obtain⟨ds,ec,e⟩:=oY e;cases e
 rw[eval_ListComp];refine wpAny_comprehension_free (use:=none) rfl hs S.clos S.kind S.names (bJ (hi aa s σ H (λJ H2=>∃N1,Ext B N1 H H2/\lj X.K J N1 au) I ⟨B,ρ,au,sB,rep,ei,λJ H2 N1 x1 j1=>⟨N1,x1,j1⟩⟩) λv s1 h1=>bJ h1 λJ2 s2 h2=>?_);obtain⟨it,fp,tn,J,H2,e,I2,T,uv,f2,N1,x1,j1⟩:=h2;subst e;refine lU hU S cp hg sJ hc he I2 T uv f2 (rep.mono x1.bn) x1.nh j1 hsz ec (RR:=λiS C=>compPost (model X.prog X.w) X.A X.xe none (EP X aa σ Q) iS C) ?_;intro Dd C s' H' N vs m hD I' hm fC x hN hl;refine⟨m,hm,λh' hs'=>⟨.ref Dd,H',?_,rfl,q _ H' N (x1.trans x) (.lst (fU.of hN) hl) λ_=>⟨Dd,vs,ds,rfl,rfl,x1.hh.free hD,hN,hl⟩⟩⟩;obtain⟨c0,c1,c2,c3,c4,c5⟩:=fC;exact I'.turned (t':=s'.toks) (λb o hb e=>(hs'.2 b hb).trans e) c0 c1 c3 c4 c5
theorem BK (hU:X.calm=true) 
  (hN:X.N.Nodup) (Lj:X.N[i]? = some y) (hy:X.env.kindOf y=some .local)
  (FP:swapsWith (.ListComp nF [⟨tg,cz,mS,0⟩] scope pos) (some (.Name y py)) spos.line X.env=pure true)
  (S:CompSc X scope cl) (cp:kg X N' scope cl nT cap) (hi:JI X tg cz fi)
  (hg:∀C s H fp,PG (fW X N' scope cl C s H fp) tg g) (sJ:Ds X.K nT lC g) (hc:∀C s H fp,JC (fW X N' scope cl C s H fp) mS fc) (he:∀C s H fp,JE (fW X N' scope cl C s H fp) nF fe)
  (hs:∀x,foldedSetIterable cz X.env x=pure x:=by intro _;rfl):
  JS X (.Assign [.Name y py] (.ListComp nF [⟨tg,cz,mS,0⟩] scope pos) spos) (bi i (bB fi nT cap lC fc fe)):=by
 intro aa s σ H E I h;have h2:wC (tD X.K (bB fi nT cap lC fc fe)) (iT i) E σ H:=uB h;obtain⟨B,ρ,d,b,sB,rep,e,q⟩:=h2;obtain⟨au,ei,e⟩:=oX e;have hsz:au.length<=sizeLine:=Decidable.byContradiction λz=>by rw[if_neg z]at e;cases e
 rw[if_pos hsz]at e;obtain⟨ds,ec,e⟩:=oY e;cases e
 rw[exec_Assign_Name_used _ _ _ _ FP];refine wX (wpAny_standAt (wX ?_));show wpAny _ _ (do let _ ←comprehension (.ListComp nF [⟨tg,cz,mS,0⟩] scope pos) scope X.env _ (newList []) false (eval cz X.env) (some (assign (.Name y py) X.env))) _ _ s;refine wX (wpAny_mono (wpAny_comprehension_free (use:=some (assign (.Name y py) X.env)) (Q:=λ_ s'=>SP X aa E .next s') rfl hs S.clos S.kind S.names
  (bJ (hi aa s σ H (λJ H2=>∃N1,Ext B N1 H H2/\lj X.K J N1 au) I ⟨B,ρ,au,sB,rep,ei,λJ H2 N1 x1 j1=>⟨N1,x1,j1⟩⟩) λv s1 h1=>bJ h1 λJ2 s2 h2=>?_)) (λ_ s' hq=>wY (wY hq)) λ_ _ e=>e)
 obtain⟨it,fp,tn,J,H2,e,I2,T,uv,f2,N1,x1,j1⟩:=h2;subst e;refine lU hU S cp hg sJ hc he I2 T uv f2 (rep.mono x1.bn) x1.nh j1 hsz ec (RR:=λiS C=>compPost (model X.prog X.w) X.A X.xe (some (assign (.Name y py) X.env)) (λ_ s'=>SP X aa E .next s') iS C) ?_;intro Dd C s' H' N vs m hD I' hm fC x MI hl;show wpAny _ _ (assign (.Name y py) X.env (.ref Dd)) _ _ s';obtain⟨c0,c1,c2,c3,c4,c5⟩:=fC;refine wpAny_assign_Name (nJ I' hN Lj (.inl hy) (r:=show aK (.ref Dd) (.ref Dd)from rfl) (λs9 I9 ⟨a,sb,ha⟩=>?_) (.inr hy));have nC:C≠a:=by
  rcases ha with z|z
  ·rw[z];exact c1
  ·exact λw=>c4 y a z w.symm
 refine⟨m,hm.sameBut sb nC,λh' hs'=>⟨_,H',?_,q _ H' N (x1.trans x) (.lst (fU.of MI) hl) λ_=>⟨Dd,vs,ds,rfl,rfl,x1.hh.free hD,MI,hl⟩⟩⟩;exact I9.turned (t':=s9.toks) (λb o hb e=>(hs'.2 b hb).trans e) c0 c1 c3 c4 c5
section
variable {X:Cx}{a b c e:Expr}{pos:Pos}
theorem PE.to (h:PE X e t)(k:∀σ H Q,t' σ H Q->t σ H Q):PE X e t':=λaa s σ H Q I q=>h aa s σ H Q I (k σ H Q q)
theorem PT.to (h:PT X e t)(k:∀σ H Q,t' σ H Q->t σ H Q):PT X e t':=λaa s σ H Q I q=>h aa s σ H Q I (k σ H Q q)
theorem PW.to (h:PW X e t)(k:∀σ H Q,t' σ H Q->t σ H Q):PW X e t':=λwh aa s σ H Q I q=>h wh aa s σ H Q I (k σ H Q q)
theorem PA.to (h:PA X es t)(k:∀σ H Q,t' σ H Q->t σ H Q):PA X es t':=λpos aa s σ H Q I q=>h pos aa s σ H Q I (k σ H Q q)
theorem PS.to {st:Stmt}{t t':TS}(h:PS X st t)(k:∀E σ H,t' E σ H->t E σ H):PS X st t':=λaa s σ H E I q=>h aa s σ H E I (k E σ H q)
theorem pv.to {st:List Stmt}{t t':TS}(h:pv X st t)(k:∀E σ H,t' E σ H->t E σ H):pv X st t':=λaa s σ H E I q=>h aa s σ H E I (k E σ H q)
theorem PI.to (h:PI X tg it t)(k:∀σ H Q,t' σ H Q->t σ H Q):PI X tg it t':=λaa s σ H Q I q=>h aa s σ H Q I (k σ H Q q)
theorem wV {K:Frag}{d:D}{v:V}(i:∀B,Is K B v d){σ:St}{H:Hp}{Q:VK}(h:tD K (fC d) σ H Q):tC v σ H Q:=by
 obtain⟨B,ρ,d',b,s,r,e,q⟩:=h;cases e
 exact q.one s (i B)
theorem ae (i:Nat)(hN:X.N[i]? = some x:=by rfl)(hv:Bd X.env.scope x:=by first|exact Or.inl rfl|exact Or.inr (Or.inl rfl)|exact Or.inr (Or.inr rfl))(hd:(x == ("__debug__" : Str))=false:=by decide)
  (lB:(x == ("__classdict__" : Str))=false:=by decide):JE X (.Name x pos) (af i):=PE.to (lF hN hv hd lB) λ_ _ _ h=>EI h
theorem al:JE X (.Constant (.int i) j pos) (fC (.int i)):=PE.to DY λ_ _ _ h=>wV (λ_=>.int i) h
theorem eL:JE X (.Constant (.bool i) j pos) (fC (.bl i)):=PE.to G6 λ_ _ _ h=>wV (λ_=>.bl i) h
theorem cF:JE X (.Constant .none j pos) (fC .non):=PE.to DZ λ_ _ _ h=>wV (λ_=>.non) h
theorem aq:JE X (.Constant (.str x) j pos) (fC (.str x)):=PE.to Ea λ_ _ _ h=>wV (λ_=>.str x) h
theorem BL (hg:Gl X x)(hm:X.mg x=some u)(r:aK v u)(i:∀B,Is X.K B v d)(hd:(x == ("__debug__" : Str))=false:=by decide):JE X (.Name x pos) (fC d):=PE.to (ls hg hm r hd) λ_ _ _ h=>wV i h
theorem ar (ho:c6 X (binaryOp op) (rD X.K f))(ha:JE X a fa)(hb:JE X b fb):JE X (.BinOp a op b pos) (f2 f fa fb):=PE.to (GQ ho ha hb) λ_ _ _ h=>B9 h
theorem Ht (ho:GP X (unaryOp op) (Kq X.K f))(ha:JE X a fa):JE X (.UnaryOp op a pos) (f1 f fa):=PE.to (GS ho ha) λ_ _ _ h=>Kr h
theorem dm (ho:c6 X (compareOp op) (rD X.K f))(ha:JE X a fa)(hb:JE X b fb)(hm:behindInMarks op b=false:=by first|exact lG _ (by decide) (by decide)|rfl):JE X (.Compare a [op] [b] pos) (f2 f fa fb):=PE.to (Bo ho ha hb hm) λ_ _ _ h=>B9 h
theorem pD {K:Frag}{f:FE}{σ:St}{H:Hp}{Q:Bool->Hp->Prop}(h:wQ K (aT f) σ H Q):tD K f σ H λx H'=>∃k,x=.bl k/\Q k H':=by
 obtain⟨B,ρ,c,s,r,e,q⟩:=h;unfold aT at e;split at e
 ·rename_i c' b' ef;cases e
  refine⟨B,ρ,.bl c,b',s,r,ef,λv H' N x i _=>?_⟩;cases i
  exact⟨c,rfl,q H' x.hh⟩
 ·cases e
theorem ax (ho:c6 X (compareOp op) (rD X.K f))(ha:JE X a fa)(hb:JE X b fb)(hm:behindInMarks op b=false:=by first|exact lG _ (by decide) (by decide)|rfl):JT X (.Compare a [op] [b] pos) (aT (f2 f fa fb)) :=
 PT.to (u0 ho ha hb hm) λ_ _ _ h=>B9 (pD h)
theorem bN (h:JE X e f)(he:∀mP,isTrue e X.env mP=(do let v ←mP;standAt e.pos;holding [v] (truthy v)):=by intro _;rfl):JT X e (aT f):=PT.to (Eb h he) λ_ _ _ q=>pD q
@[simp] noncomputable def db (f g:D->D->OB)(fa fb fc:FE):FE:=λρ=>(fa ρ).bind λx=>(fb ρ).bind λy=>match f x.1 y.1 with
 |some (.bl true,_)=>(fc ρ).bind λz=>g y.1 z.1
 |some (.bl false,_)=>some (.bl false,false)
 |_=>none
theorem qH {K:Frag}{f g:D->D->OB}{fa fb fc:FE}{σ:St}{H:Hp}{Q:VK}(h:tD K (db f g fa fb fc) σ H Q):sS (rD K f) (rD K g) (tD K fa) (tD K fb) (tD K fc) σ H Q:=by
 obtain⟨B,ρ,d,b,s,r,e,q⟩:=h;obtain⟨x,ex,e⟩:=oX e;obtain⟨y,ey,e⟩:=oX e;refine⟨B,ρ,x.1,x.2,s,r,ex,λv H1 N1 x1 i1 _=>⟨N1,ρ,y.1,y.2,x1.nh,r.mono x1.bn,ey,λv2 H2 N2 x2 i2 _=>?_⟩⟩;split at e
 ·rename_i b' ef;obtain⟨z,ez,e⟩:=oX e;refine⟨N2,x.1,y.1,.bl true,b',x2.nh,i1.mono x2.bn,i2,ef,λv3 H3 N3 x3 i3 _=>?_⟩;cases i3
  refine⟨true,rfl,?_⟩;rw[if_pos rfl];refine⟨N3,ρ,z.1,z.2,x3.nh,r.mono (x1.bn.trans (x2.bn.trans x3.bn)),ez,λv4 H4 N4 x4 i4 _=>⟨N4,y.1,z.1,d,b,x4.nh,i2.mono (x3.bn.trans x4.bn),i4,e,?_⟩⟩;exact q.into ((x1.trans x2).trans (x3.trans x4))
 ·rename_i b' ef;cases e
  refine⟨N2,x.1,y.1,.bl false,b',x2.nh,i1.mono x2.bn,i2,ef,λv3 H3 N3 x3 i3 _=>?_⟩;cases i3
  refine⟨false,rfl,?_⟩;rw[if_neg (by decide)];exact(q.into ((x1.trans x2).trans x3)).one x3.nh (.bl false)
 ·cases e
theorem lV (ho:c6 X (compareOp op) (rD X.K f))(uu:c6 X (compareOp xZ) (rD X.K g))(ha:JE X a fa)(hb:JE X b fb)(hc:JE X c fc)
  (hm:lastMarks [op,xZ] [b,c]=false:=by with_unfolding_all rfl):JE X (.Compare a [op,xZ] [b,c] pos) (db f g fa fb fc):=PE.to (yz ho uu ha hb hc hm) λ_ _ _ h=>qH h
theorem lW (ho:c6 X (compareOp op) (rD X.K f))(uu:c6 X (compareOp xZ) (rD X.K g))(ha:JE X a fa)(hb:JE X b fb)(hc:JE X c fc)
  (hm:lastMarks [op,xZ] [b,c]=false:=by with_unfolding_all rfl):JT X (.Compare a [op,xZ] [b,c] pos) (aT (db f g fa fb fc)):=PT.to (y0 ho uu ha hb hc hm) λ_ _ _ h=>qH (pD h)
theorem BM {K:Frag}{f g:FT}{σ:St}{H:Hp}{Q:Bool->Hp->Prop}(h:wQ K (iW f g) σ H Q):G7 (wQ K f) (wQ K g) σ H Q:=by
 obtain⟨B,ρ,c,s,r,e,q⟩:=h;unfold iW at e;cases ef:f ρ with
 |none=>rw[ef]at e;cases e
 |some k=>
  rw[ef]at e;refine⟨B,ρ,k,s,r,ef,λH1 h1=>?_⟩;cases k with
  |true=>rw[if_pos rfl];exact⟨B,ρ,c,s.trans h1,r,e,λH2 h2=>q H2 (h1.trans h2)⟩
  |false=>rw[if_neg (by decide)];cases e;exact q H1 h1
theorem EM {K:Frag}{f g:FT}{σ:St}{H:Hp}{Q:Bool->Hp->Prop}(h:wQ K (cN f g) σ H Q):Mb (wQ K f) (wQ K g) σ H Q:=by
 obtain⟨B,ρ,c,s,r,e,q⟩:=h;unfold cN at e;cases ef:f ρ with
 |none=>rw[ef]at e;cases e
 |some k=>
  rw[ef]at e;refine⟨B,ρ,k,s,r,ef,λH1 h1=>?_⟩;cases k with
  |false=>rw[if_neg (by decide)];exact⟨B,ρ,c,s.trans h1,r,e,λH2 h2=>q H2 (h1.trans h2)⟩
  |true=>rw[if_pos rfl];cases e;exact q H1 h1
theorem BN {K:Frag}{f:FT}{σ:St}{H:Hp}{Q:Bool->Hp->Prop}(h:wQ K (c7 f) σ H Q):G8 (wQ K f) σ H Q:=by
 obtain⟨B,ρ,c,s,r,e,q⟩:=h;obtain⟨k,ek,e⟩:=oY e;subst e;exact⟨B,ρ,k,s,r,ek,λH1 h1=>q H1 h1⟩
variable {rest:List Expr}
theorem pE (ha:JT X a f):JW X (.BoolOp .And [a] pos) f:=Bf ha
theorem c9 (ha:JT X a f):JW X (.BoolOp .Or [a] pos) f:=Ec ha
theorem tq (ha:JT X a f)(hb:JW X (.BoolOp .And (b::rest) pos) g):JW X (.BoolOp .And (a::b::rest) pos) (iW f g):=PW.to (Ed ha hb) λ_ _ _ h=>BM h
theorem cP (ha:JT X a f)(hb:JW X (.BoolOp .Or (b::rest) pos) g):JW X (.BoolOp .Or (a::b::rest) pos) (cN f g):=PW.to (G9 ha hb) λ_ _ _ h=>EM h
theorem fK (h:JW X e f):JT X e f:=h.pt
theorem bZ (ha:JT X a f):JT X (.UnaryOp .Not a pos) (c7 f):=PT.to (Ee ha) λ_ _ _ h=>BN h
@[simp] noncomputable def ji (f g:FE):FE:=λρ=>match f ρ with|some (.bl true,_)=>g ρ|some (.bl false,_)=>some (.bl false,false)|_=>none
@[simp] noncomputable def Dt (f g:FE):FE:=λρ=>match f ρ with|some (.bl true,_)=>some (.bl true,false)|some (.bl false,_)=>g ρ|_=>none
@[simp] noncomputable def wW (f:FE):FE:=λρ=>match f ρ with|some (.bl c,_)=>some (.bl (!c),false)|_=>none
theorem fg (ha:JE X a f)(hb:JE X (.BoolOp .And (b::rest) pos) g):JE X (.BoolOp .And (a::b::rest) pos) (ji f g):=PE.to (Eg ha hb) λσ H Q h=>by
 obtain⟨B,ρ,d,k,s,r,e,q⟩:=h;unfold ji at e;split at e
 ·rename_i b' ef;refine⟨B,ρ,_,_,s,r,ef,λv H1 N1 x1 i1 _=>?_⟩;cases i1
  refine⟨true,rfl,?_⟩;rw[if_pos rfl];exact⟨N1,ρ,d,k,x1.nh,r.mono x1.bn,e,q.into x1⟩
 ·rename_i b' ef;cases e
  refine⟨B,ρ,_,_,s,r,ef,λv H1 N1 x1 i1 _=>?_⟩;cases i1
  refine⟨false,rfl,?_⟩;rw[if_neg (by decide)];exact(q.into x1).one x1.nh (.bl false)
 ·cases e
theorem uD (ha:JE X a f)(hb:JE X (.BoolOp .Or (b::rest) pos) g):JE X (.BoolOp .Or (a::b::rest) pos) (Dt f g):=PE.to (GC ha hb) λσ H Q h=>by
 obtain⟨B,ρ,d,k,s,r,e,q⟩:=h;unfold Dt at e;split at e
 ·rename_i b' ef;cases e
  refine⟨B,ρ,_,_,s,r,ef,λv H1 N1 x1 i1 _=>?_⟩;cases i1
  refine⟨true,rfl,?_⟩;rw[if_pos rfl];exact(q.into x1).one x1.nh (.bl true)
 ·rename_i b' ef;refine⟨B,ρ,_,_,s,r,ef,λv H1 N1 x1 i1 _=>?_⟩;cases i1
  refine⟨false,rfl,?_⟩;rw[if_neg (by decide)];exact⟨N1,ρ,d,k,x1.nh,r.mono x1.bn,e,q.into x1⟩
 ·cases e
theorem eI (h:JE X a f):JE X (.BoolOp op [a] pos) f:=Ef h
theorem yU (ha:JE X a f):JE X (.UnaryOp .Not a pos) (wW f):=PE.to (Eh ha) λσ H Q h=>by
 obtain⟨B,ρ,d,k,s,r,e,q⟩:=h;unfold wW at e;split at e
 ·rename_i c b' ef;cases e
  refine⟨B,ρ,_,_,s,r,ef,λv H1 N1 x1 i1 _=>?_⟩;cases i1
  exact⟨c,rfl,(q.into x1).one x1.nh (.bl _)⟩
 ·cases e
theorem j9 (hc:JT X c fc)(ha:JE X a f)(hb:JE X b g):JE X (.IfExp c a b pos) (p8 fc f g):=PE.to (yr hc ha hb) λσ H Q h=>by
 obtain⟨B,ρ,d,k,s,r,e,q⟩:=h;unfold p8 at e;cases ef:fc ρ with
 |none=>rw[ef]at e;cases e
 |some t=>
  rw[ef]at e;refine⟨B,ρ,t,s,r,ef,λH1 h1=>?_⟩;cases t with
  |true=>rw[if_pos rfl];exact⟨B,ρ,d,k,s.trans h1,r,e,q.into (.grow s h1)⟩
  |false=>rw[if_neg (by decide)];exact⟨B,ρ,d,k,s.trans h1,r,e,q.into (.grow s h1)⟩
variable {es:List Expr}
theorem ah:JA X [] ai:=PA.to gG λ_ _ _ h=>BB h
theorem ag (ha:JE X e f)(hr:JA X es g)(hs:starEach (e::es) X.env=(false,eval e X.env)::starEach es X.env:=by rfl):JA X (e::es) (ac f g):=PA.to (eN ha hr hs) λ_ _ _ h=>yN h
@[simp] noncomputable def bM:List D->OB:=λds=>if ds.length<=sizeLine then some (.tup ds,false)else none
@[simp] noncomputable def aY:List D->OB:=λds=>if ds.length<=sizeLine then some (.lst ds,true)else none
theorem bS {x1}(h:JA X es f):JE X (.Tuple es x1 pos) (fA bM f):=PE.to (E2 h) λσ H Q q=>by
 obtain⟨B,ρ,ds,s,r,e,k⟩:=BA q;refine⟨B,ρ,ds,s,r,e,λvs H1 N1 x1 i1=>?_⟩;obtain⟨B2,MJ,d,b,s2,i2,e2,k2⟩:=k vs H1 N1 x1 i1;unfold bM at e2;split at e2
 ·rename_i hz;cases e2
  refine⟨by rw[i2.length];exact hz,λp hp=>k2 _ _ (upd B2 p (.tup vs)) (.laid s2 hp) (.tup (gh.of ay) (i2.mono (Ext.laid s2 hp).bn)) (by simp)⟩
 ·cases e2
theorem bK (h:JA X es f):JE X (.List es pos) (fA aY f):=PE.to (E3 h) λσ H Q q=>by
 obtain⟨B,ρ,ds,s,r,e,k⟩:=BA q;refine⟨B,ρ,ds,s,r,e,λvs H1 N1 x1 i1=>?_⟩;obtain⟨B2,MJ,d,b,s2,i2,e2,k2⟩:=k vs H1 N1 x1 i1;unfold aY at e2;split at e2
 ·rename_i hz;cases e2
  refine⟨by rw[i2.length];exact hz,λp hp=>k2 _ _ (upd B2 p (.lst vs)) (.laid s2 hp) (.lst (fU.of ay) (i2.mono (Ext.laid s2 hp).bn)) λ_=>⟨p,vs,MJ,rfl,rfl,hp,ay,i2.mono (Ext.laid s2 hp).bn⟩⟩
 ·cases e2
end
section
variable {X:Cx}
theorem ia (h:c6 X f r)(k:∀x y H Q,r' x y H Q->r x y H Q):c6 X f r':=λaa s σ H x y v u Q I rx ry q=>h aa s σ H x y v u Q I rx ry (k x y H Q q)
noncomputable def AO (f g:D->D->OB):D->D->OB:=λx y=>match f x y with|some r=>some r|none=>g x y
theorem lX (h:c6 X s (rD X.K f))(h':c6 X s (rD X.K g)):c6 X s (rD X.K (AO f g)):=by
 intro aa st σ H x y v u Q I rx ry q;obtain⟨B,dx,dy,d,b,sB,ix,iy,e,q⟩:=q;unfold AO at e;split at e
 ·rename_i r ef;cases e
  exact h aa st σ H x y v u Q I rx ry ⟨B,dx,dy,_,_,sB,ix,iy,ef,q⟩
 ·exact h' aa st σ H x y v u Q I rx ry ⟨B,dx,dy,_,_,sB,ix,iy,e,q⟩
@[simp] noncomputable def nu (C:Int->Int->Bool)(g:Int->Int->D):D->D->OB
 |.int i,.int j=>if C i j=true then some (g i j,false)else none
 |_,_=>none
theorem gH (h:c6 X s (rI C g))(hC:∀i j,C' i j=true->C i j)(hg:∀i j B,Is X.K B (g i j) (g' i j)):c6 X s (rD X.K (nu C' g')):=by
 refine ia h λx y H Q q=>?_;obtain⟨B,dx,dy,d,b,sB,ix,iy,e,q⟩:=q;cases ix<;>try (cases e;done)
 cases iy<;>try (cases e;done)
 rename_i i j;simp only[nu]at e;split at e
 ·rename_i hc;cases e
  exact⟨i,j,rfl,rfl,hC i j hc,q.one sB (hg i j B)⟩
 ·cases e
theorem et (h:c6 X s (yy g))(hg:∀i j B,Is X.K B (g i j) (g' i j)):c6 X s (rD X.K (nu (λ_ _=>true) g')):=by
 refine ia h λx y H Q q=>?_;obtain⟨B,dx,dy,d,b,sB,ix,iy,e,q⟩:=q;cases ix<;>try (cases e;done)
 cases iy<;>try (cases e;done)
 rename_i i j;simp only[nu,if_true]at e;cases e
 exact⟨i,j,rfl,rfl,q.one sB (hg i j B)⟩
abbrev EN:D->D->OB:=nu (λ_ _=>true) λi j=>.int (i+j)
abbrev yV:D->D->OB:=nu (λ_ _=>true) λi j=>.int (i - j)
abbrev Hu:D->D->OB:=nu (λi j=>decide ((-18446744073709551616<i/\i<18446744073709551616)∨(-18446744073709551616<j/\j<18446744073709551616))) λi j=>.int (i*j)
abbrev b9:D->D->OB:=nu (λ_ j=>decide (0<j/\j<1073741824)) λi j=>.int (i / j)
abbrev bc:D->D->OB:=nu (λ_ j=>decide (0<j)) λi j=>.int (i % j)
abbrev EO:D->D->OB:=nu (λi j=>decide (0<=j/\j<=1000000/\i.natAbs<18446744073709551616)) λi j=>.int (i ^ j.toNat)
abbrev Hv:D->D->OB:=nu (λ_ j=>decide (0<=j)) λi j=>.int (i / 2 ^ j.toNat)
abbrev Hw:D->D->OB:=nu (λ_ _=>true) λi j=>.int (Builtin.bitAnd i j)
abbrev Ml:D->D->OB:=nu (λ_ _=>true) λi j=>.bl (decide (i<j))
abbrev Ks:D->D->OB:=nu (λ_ _=>true) λi j=>.bl (decide (i<=j))
abbrev EQ:D->D->OB:=nu (λ_ _=>true) λi j=>.bl (decide (j<i))
abbrev Mm:D->D->OB:=nu (λ_ _=>true) λi j=>.bl (decide (j<=i))
theorem Hx:c6 X (binaryOp .Add) (rD X.K EN):=et Er λ_ _ _=>.int _
theorem yW:c6 X (binaryOp .Sub) (rD X.K yV):=et Es λ_ _ _=>.int _
theorem Hy:c6 X (binaryOp .Mult) (rD X.K Hu):=gH Et (λi j h=>by have h:=of_decide_eq_true h;unfold Bm;omega) λ_ _ _=>.int _
theorem bo:c6 X (binaryOp .FloorDiv) (rD X.K b9):=gH Bn (λi j h=>by have h:=of_decide_eq_true h;unfold GU;omega) λ_ _ _=>.int _
theorem bt:c6 X (binaryOp .Mod) (rD X.K bc):=gH Eu (λ_ _ h=>of_decide_eq_true h) λ_ _ _=>.int _
theorem Hz:c6 X (binaryOp .Pow) (rD X.K EO):=gH Ev (λi j h=>by have h:=of_decide_eq_true h;unfold Bl;omega) λ_ _ _=>.int _
theorem HA:c6 X (binaryOp .RShift) (rD X.K Hv):=gH Ex (λ_ _ h=>of_decide_eq_true h) λ_ _ _=>.int _
theorem HB:c6 X (binaryOp .BitAnd) (rD X.K Hw):=et Ey λ_ _ _=>.int _
theorem Kt:c6 X (compareOp .Lt) (rD X.K Ml):=et GW λ_ _ _=>.bl _
theorem Ku:c6 X (compareOp .LtE) (rD X.K Ks):=et GY λ_ _ _=>.bl _
theorem BO:c6 X (compareOp .Gt) (rD X.K EQ):=et GZ λ_ _ _=>.bl _
theorem Kv:c6 X (compareOp .GtE) (rD X.K Mm):=et Ha λ_ _ _=>.bl _
@[simp] noncomputable def Go (C:Str->Str->Bool)(g:Str->Str->D):D->D->OB
 |.str i,.str j=>if C i j=true then some (g i j,false)else none
 |_,_=>none
abbrev BP:D->D->OB:=Go (λi j=>decide (i.length+j.length<=sizeLine)) λi j=>.str (i++j)
abbrev Ju:D->D->OB:=Go (λ_ _=>true) λi j=>.bl (!decide (j.cps.toList<i.cps.toList))
theorem ER:c6 X (binaryOp .Add) (rD X.K BP):=by
 refine ia sT λx y H Q q=>?_;obtain⟨B,dx,dy,d,b,sB,ix,iy,e,q⟩:=q;cases ix<;>try (cases e;done)
 cases iy<;>try (cases e;done)
 rename_i i j;simp only[BP,Go]at e;split at e
 ·rename_i hc;cases e
  exact⟨i,j,rfl,rfl,of_decide_eq_true hc,q.one sB (.str _)⟩
 ·cases e
theorem HC:c6 X (compareOp .LtE) (rD X.K Ju):=by
 intro aa s σ H x y v u Q I rx ry q;obtain⟨B,dx,dy,d,b,sB,ix,iy,e,q⟩:=q;cases ix<;>try (cases e;done)
 cases iy<;>try (cases e;done)
 rename_i i j;simp only[Ju,Go,if_true]at e;cases e
 obtain⟨t,rfl⟩:=rx;obtain⟨t',rfl⟩:=ry;exact PySem.P.le_str ⟨.bl _,H,I,rfl,q.one sB (.bl _)⟩
end
section
variable {X:Cx}{a b c e:Expr}{pos:Pos}{st:Stmt}{rest:List Stmt}
theorem fj:pA X [] aJ:=pv.to Bg λ_ _ _ h=>yP h
theorem aj (h1:JS X st g)(h2:pA X rest h):pA X (st::rest) (a7 g h):=pv.to (yt h1 h2) λ_ _ _ q=>BC q
theorem bF (h1:JS X st g):pA X [st] g:=Bh h1
theorem gZ {c:Expr}{a b:List Stmt}{fc:FT}{g h:FS}(hc:JT X c fc)(ha:pA X a g)(hb:pA X b h):JS X (.If c a b pos) (cZ fc g h):=PS.to (GH hc ha hb) λ_ _ _ q=>EJ q
theorem yX (he:JE X e f):JS X (.Return (some e) pos) (aD f):=PS.to (yu he) λ_ _ _ q=>BD q
theorem pF (i:Nat)(hN:X.N[i]? = some x:=by rfl)(hv:Bd X.env.scope x:=by first|exact Or.inl rfl|exact Or.inr (Or.inl rfl)|exact Or.inr (Or.inr rfl))(hd:(x == ("__debug__" : Str))=false:=by decide)
  (lB:(x == ("__classdict__" : Str))=false:=by decide):JS X (.Return (some (.Name x p)) pos) (kP i):=PS.to (yu (lF hN hv hd lB)) λ_ _ _ q=>yQ q
theorem aL (hN:X.N.Nodup)(he:JE X e f)(hi:X.N[i]? = some x:=by rfl)(hx:De X.env.scope x:=by first|exact Or.inl rfl|exact Or.inr rfl)(hs:swapsWith e (some (.Name x p)) pos.line X.env=pure false:=by rfl)
  (hf:X.fn x=true∨X.env.scope.names.lookup x=some .local:=by first|exact .inl rfl|exact .inr rfl):JS X (.Assign [.Name x p] e pos) (bi i f):=PS.to (yw hN hi hx he hs hf) λ_ _ _ q=>uB q
theorem ES (hp:PassesOwn (model X.prog X.w) X.A X.env X.xe)(hc:X.calm=true)(hi:JI X tg cz fi)(hg:PG X tg t)(ht:BF X.K lC t)(hb:pA X body g)
  (hs:∀x,foldedSetIterable cz X.env x=pure x:=by intro _;rfl):JS X (.For tg cz body [] pos) (ll fi lC g):=PS.to (yx hp hc hi hg hb hs) λ_ _ _ q=>BG ht q
theorem BQ (hp:PassesOwn (model X.prog X.w) X.A X.env X.xe)(hc:X.calm=true)(hi:PI X tg cz (Gm X.K fi))(hg:PG X tg t)(ht:BF X.K lC t)(hb:pA X body g)
  (hs:∀x,foldedSetIterable cz X.env x=pure x:=by intro _;rfl):JS X (.For tg cz body [] pos) (j8 fi lC g):=PS.to (yx hp hc hi hg hb hs) λ_ _ _ q=>yT ht q
theorem lY (he:JE X e f)(hN:X.N[i]? = some x:=by rfl)(hv:Bd X.env.scope x:=by first|exact Or.inl rfl|exact Or.inr (Or.inl rfl)|exact Or.inr (Or.inr rfl))(hd:(x == ("__debug__" : Str))=false:=by decide)
  (lB:(x == ("__classdict__" : Str))=false:=by decide)
  (gD:attributeBase (.Name x p) "append" X.env (eval (.Name x p) X.env)=eval (.Name x p) X.env:=by rfl)
  (qr:((backTo ce (starEach [e] X.env)).all (λx=>!x.1) && (backToKw ce (keywordEach [] X.env)).all (λx=>x.1.isSome)
   && decide ([e].length+([]:List Keyword).length+(if([]:List Keyword).isEmpty then 0 else 1)<30))=true:=by rfl)
  (gE:(dq.endLine == ce.line)=true:=by rfl) (hs:starEach [e] X.env=[(false,eval e X.env)]:=by rfl) (FP:swapsWith (.Call (.Attribute (.Name x p) "append" dq) [e] [] ce) none pos.line X.env=pure false:=by rfl):
  JS X (.Expr (.Call (.Attribute (.Name x p) "append" dq) [e] [] ce) pos) (nr i f):=by
 refine PS.to (uy (u9 PySem.F.plainAttrs_list PySem.F.slot_list_append PySem.F.type_list_append nP (lF hN hv hd lB) (eN he gG hs) gD qr gE hs rfl) FP) λE σ H q=>?_;obtain⟨a,us,h1,h2,k⟩:=BE q;exact⟨_,h1,.inl ⟨rfl,us,fU.of h2⟩,k⟩
end
@[simp] noncomputable def aI (g:FS)(n k:Nat):List D->OB:=λds=>if ds.length=n then
 match g (ds.map (λd=>some (d,false))++List.replicate k none) with
 |some (.rt d b)=>some (d,b)
 |some (.nx _)=>some (.non,false)
 |_=>none
 else none
def BR (K:Frag)(f:List D->OB):Sp:=λvs H Q _=>∃(B:Hp)(ds:List D)(d:D)(b:Bool),(aM B H/\Tb K B)/\IsL K B vs ds/\f ds=some (d,b)/\Fin K B H d b Q
theorem qI {K:Frag}{B H:Hp}{vs:List V}{ds:List D}{N:List Str}(sB:aM B H)(tb:Tb K B)(i:IsL K B vs ds):cV K B H B H (L2.gY N vs) (ds.map (λd=>some (d,false))++List.replicate (N.length - vs.length) none):=by
 have nf:∀(j:Nat)(d:D)(b:Bool),(ds.map (λd=>some (d,false))++List.replicate (N.length - vs.length) none:Env)[j]? = some (some (d,b))->b=false/\ds[j]? = some d:=λj d b e=>by
  by_cases hj:j<ds.length
  ·rw[List.getElem?_append_left (by simpa using hj),vB]at e;obtain⟨d',h1,h2⟩:=oY e;cases h2
   exact⟨rfl,h1⟩
  ·rw[List.getElem?_append_right (by simpa using Nat.not_lt.mp hj),List.getElem?_replicate]at e;split at e<;>cases e
 have no:∀a,¬own (L2.gY N vs) (ds.map (λd=>some (d,false))++List.replicate (N.length - vs.length) none) a:=λa ⟨j,d,h,_⟩=>by
  obtain⟨z,_⟩:=nf j d true h;cases z
 refine⟨sB,tb,.refl sB,?_,λj d e=>?_,λj d e=>?_,λj k a d e h=>?_⟩
 ·unfold L2.gY;rw[vA,vA,vI,vI,List.length_replicate,List.length_replicate,i.length]
 ·obtain⟨_,e1⟩:=nf j d false e;obtain⟨v,h1,h2⟩:=i.get e1;refine⟨v,?_,h2.mono λa o e=>by rw[bY (no a)];exact e⟩;unfold L2.gY;have hj:j<vs.length:=(vV h1).1;rw[List.getElem?_append_left (by simpa using hj),vB,h1]<;>rfl
 ·obtain⟨z,_⟩:=nf j d true e;cases z
 ·obtain⟨z,_⟩:=nf j d true h;cases z
section
variable {P:Program}{w:World}{K:Frag}{mg:Str->Option Value}{base:Heap}
theorem HD {x qual:Str}{st:Stmt}{f:Addr}{fd:FuncData}{N ps:List Str}{k:Nat}{g:FS}(F:FL K x qual st f fd)(S:FnScope N ps (aB st))
  (hb:∀(de:Value)(A:Around)(outer:List PySem.Env)(s:Shared)(H:Hp)(E:XK),eJ k (A.deeper (envOfC qual (aB st) s.heap.objs.size f de))->pA (lh sM P w K mg base N qual (aB st) f de A outer s H E).nox (bU st) g):
  ke P w K mg base sM (k+1) f fd ps (BR K (aI g ps.length (N.length - ps.length))):=by
 have len:∀vs H Q E,BR K (aI g ps.length (N.length - ps.length)) vs H Q E->vs.length=ps.length:=λvs H Q E h=>by
  obtain⟨B,ds,d,b,sB,i,e,q⟩:=h;unfold aI at e;split at e
  ·rename_i hl;rw[i.length];exact hl
  ·cases e
 refine F.ok S len λde A outer s H vs Q E hr h=>⟨_,hb de A outer s H E hr,?_⟩;have bD:=len vs H Q E h;obtain⟨B,ds,d,b,sB,i,e,q⟩:=h;unfold aI at e;rw[if_pos (by rw[←i.length];exact bD)]at e;have s0:=qI (N:=N) sB.1 sB.2 i;rw[bD]at s0;split at e
 ·rename_i d' b' eg;cases e
  exact⟨B,H,_,_,⟨B,s0⟩,eg,λv H' N' x' i' f'=>q v H' N' x' i' f'⟩
 ·rename_i ρ' eg;cases e
  exact⟨B,H,_,_,⟨B,s0⟩,eg,λσ' H' ⟨N',s'⟩=>q .non H' N' s'.ext .non (by simp)⟩
 ·cases e
structure Fn (P:Program)(w:World)(K:Frag)(mg:Str->Option Value)(base:Heap)(k:Nat)(x:Str)(f:List D->OB):Prop where
 ex:∃(ad:Addr)(fd:FuncData)(ps:List Str),ke P w K mg base sM k ad fd ps (BR K f)/\mg x=some (.ref ad)/\PySem.W.keepIn K (.ref ad)=true/\kN K fd ps []
theorem Fn.eq (F:Fn P w K mg base k x f)(h:∀ds r,f' ds=some r->f ds=some r):Fn P w K mg base k x f':=by
 obtain⟨ad,fd,ps,F1,h2⟩:=F.ex;exact⟨ad,fd,ps,F1.imp λvs H Q E ⟨B,ds,d,b,sB,i,e,q⟩=>⟨B,ds,d,b,sB,i,h _ _ e,q⟩,h2⟩
end
theorem uE (F:Fn X.prog X.w X.K X.mg X.base k x f)(hr:eJ k X.A)(ha:JA X (e::es) fa)(hg:Gl X x:=by rfl)
  (sI:(x == ("__debug__" : Str))=false:=by decide) (he:starEach (e::es) X.env=(false,eval e X.env)::starEach es X.env:=by rfl) (ng:(backTo pos (starEach es X.env)).any (·.1)=false:=by rfl):
  JE X (.Call (.Name x p) (e::es) [] pos) (fA f fa):=by
 obtain⟨ad,fd,ps,F1,hm,hk,hb⟩:=F.ex;refine PE.to (Bq F1 hr hg hm hk hb .nil Hj ha sI he ng) λσ H Q q=>?_;obtain⟨B,ρ,d,b,s,r,e,q⟩:=q;obtain⟨ds,ex,e⟩:=oX e;exact⟨B,ρ,ds,s,r,ex,λvs H1 N1 x1 i1=>by
  show BR X.K f (vs++[]) H1 Q _;rw[uQ];exact⟨N1,ds,d,b,⟨x1.nh,r.tb.mono x1.bn⟩,i1,e,q.into x1⟩⟩
mutual
@[simp] def cU:D->D->Bool
 |.non,.non=>true
 |.bl a,.bl b=>a == b
 |.bl a,.int b=>decide ((if a then 1 else 0)=b)
 |.int a,.bl b=>decide (a=(if b then 1 else 0))
 |.int a,.int b=>decide (a=b)
 |.str a,.str b=>decide (a=b)
 |.tup xs,.tup ys=>hV xs ys
 |.lst xs,.lst ys=>hV xs ys
 |_,_=>false
@[simp] def hV:List D->List D->Bool
 |[],[]=>true
 |x::xs,y::ys=>cU x y && hV xs ys
 |_,_=>false
end
@[simp] theorem qJ (a:Str)(b:Str):cU (.str a) (.str b)=decide (a=b):=by simp only[cU]
@[simp] noncomputable def aN:Nat->D->Bool
 |_,.non=>true
 |_,.bl _=>true
 |_,.int _=>true
 |_,.str _=>true
 |_,.ty _=>false
 |_,.dk _ _=>false
 |_,.dt _ _=>false
 |0,.tup _=>false
 |0,.lst _=>false
 |n+1,.tup ds=>ds.all (aN n)
 |n+1,.lst ds=>ds.all (aN n)
theorem qK:∀ {xs ys:List D},hV xs ys=true->xs.length=ys.length
 |[],[],_=>rfl
 |x::xs,y::ys,h=>by
  simp only[hV,vD]at h;rw[vE,vE,qK h.2]
 |[],_::_,h=>by simp[hV]at h
 |_::_,[],h=>by simp[hV]at h
theorem uF (h:xs.length≠ys.length):hV xs ys=false:=by
 cases e:hV xs ys with
 |false=>rfl
 |true=>exact absurd (qK e) h
theorem jj (f:Nat->Bool):∀ {xs ys:List D},xs.length=ys.length->(∀(j:Nat) x y,xs[j]? = some x->ys[j]? = some y->f j=cU x y)->(List.range xs.length).all f=hV xs ys
 |[],[],_,_=>by simp[hV]
 |x::xs,y::ys,hl,h=>by
  have e:=jj (λj=>f (j+1)) (xs:=xs) (ys:=ys) (by simpa using hl) λj a b h1 h2=>h (j+1) a b (by simpa using h1) (by simpa using h2);rw[vE,List.range_succ_eq_map,List.all_cons,List.all_map,hV,←h 0 x y rfl rfl,←e];rfl
 |[],_::_,hl,_=>by simp at hl
 |_::_,[],hl,_=>by simp at hl
section
variable {X:Cx}{aa:List (Addr×Obj)}{σ:St}{H:Hp}{s:Shared}
theorem uG (I:Inv X aa σ H s)(h1:gh X.K H a vs)(h2:fU X.K H a ws):False:=by
 obtain⟨its,_,⟨o,e,c,_⟩,_⟩:=I.tuple h1;obtain⟨its',_,⟨o',n',e',c',_⟩,_⟩:=I.list h2;rw[e]at e';cases e';rw[c]at c';injection c' with z;exact absurd z (by decide)
theorem uH (I:Inv X aa σ H s)(e:s.heap.get? a=some o)(d:o.data=.seq its n):(∀aG ob,H a≠some (.dK aG ob))/\∀aG,H a≠some (.dT aG):=by
 refine⟨λaG ob h=>?_,λaG h=>?_⟩
 ·obtain⟨_,_,_,_,_,o',es,ep,e',_,d',_⟩:=(show br X.prog X.w H s.heap a (.dK aG ob)from I.hok a _ h);rw[e]at e';cases e';rw[d]at d';cases d'
 ·obtain⟨_,_,_,_,o',es,ep,e',_,d',_⟩:=(show br X.prog X.w H s.heap a (.dT aG)from I.hok a _ h);rw[e]at e';cases e';rw[d]at d';cases d'
theorem qL (I:Inv X aa σ H s)(h1:gh X.K H a vs):(∀aG ob,H a≠some (.dK aG ob))/\∀aG,H a≠some (.dT aG):=by
 obtain⟨its,_,⟨o,e,c,n,d⟩,_⟩:=I.tuple h1;exact uH I e d
theorem qM (I:Inv X aa σ H s)(h1:fU X.K H a vs):(∀aG ob,H a≠some (.dK aG ob))/\∀aG,H a≠some (.dT aG):=by
 obtain⟨its,_,p,_⟩:=I.list h1;obtain⟨o,e,c,n,d⟩:=p.isList;exact uH I e d
theorem uJ (I:Inv X aa σ H s):∀(n:Nat){v:V}{d d':D},Is X.K H v d->Is X.K H v d'->aN n d=true->cU d d'=true:=by
 have lists:∀ {p:D->Bool}(ih:∀ {v:V}{d d':D},Is X.K H v d->Is X.K H v d'->p d=true->cU d d'=true) {vs:List V}{ds AD:List D},IsL X.K H vs ds->IsL X.K H vs AD->ds.all p=true->hV ds AD=true:=by
  intro p ih vs;induction vs with
  |nil=>intro ds AD h h' _;cases h;cases h';simp[hV]
  |cons v vs OE=>
   intro ds AD h h' hp;cases h with
   |cons h1 h2=>
    cases h' with
    |cons h3 h4=>
     rw[List.all_cons,vD]at hp;rw[hV,ih h1 h3 hp.1,OE h2 h4 hp.2];rfl
 intro n;induction n with
 |zero=>
  intro v d d' h h' hp;cases h<;>cases h'<;>first|(simp[aN]at hp;done)|simp[cU]
 |succ n ih=>
  intro v d d' h h' hp;cases h with
  |tup h1 h2=>
   cases h' with
   |tup h3 h4=>
    rw[I.tuple_inj h3 h1]at h4;rw[cU];exact lists ih h2 h4 (by simpa [aN]using hp)
   |lst h3 h4=>exact(uG I h1 h3).elim
   |dk h3 _ _=>exact((qL I h1).1 _ _ h3).elim
   |dt h3 _ _=>exact((qL I h1).2 _ h3).elim
  |lst h1 h2=>
   cases h' with
   |lst h3 h4=>
    rw[I.list_inj h3 h1]at h4;rw[cU];exact lists ih h2 h4 (by simpa [aN]using hp)
   |tup h3 h4=>exact(uG I h3 h1).elim
   |dk h3 _ _=>exact((qM I h1).1 _ _ h3).elim
   |dt h3 _ _=>exact((qM I h1).2 _ h3).elim
  |ty=>simp[aN]at hp
  |dk=>simp[aN]at hp
  |dt=>simp[aN]at hp
  |_=>cases h'<;>simp[cU]
theorem Du {α:Type}{p:α->Bool}{l:List α}{j:Nat}{x:α}(h:l.all p=true)(e:l[j]? = some x):p x=true:=uR h x (List.mem_of_getElem? e)
theorem qN {A:Around}{p:D->Bool}(ih:∀ {v1 v2:V}{d1 d2:D}{u1 u2:Value},p d1=true->p d2=true->Is X.K H v1 d1->Is X.K H v2 d2->aK v1 u1->aK v2 u2->SeqAt.EqAt A s u1 u2 (cU d1 d2))
  {vs ws:List V}{ds es:List D}{its nH:List Value}(i1:IsL X.K H vs ds) (i2:IsL X.K H ws es) (r1:aP vs its) (r2:aP ws nH) (p1:ds.all p=true) (p2:es.all p=true):
  ∀j (h1:j<its.toArray.size) (h2:j<nH.toArray.size),SeqAt.EqAt A s its.toArray[j] nH.toArray[j] (cU (ds.getD j .non) (es.getD j .non)):=by
 intro j h1 h2;rw[vH]at h1 h2;have l1:=r1.length;have l2:=r2.length;have l3:=i1.length;have l4:=i2.length;have hv:j<vs.length:=by omega
 have hw:j<ws.length:=by omega
 have hd:j<ds.length:=by omega
 have he:j<es.length:=by omega
 obtain⟨u,e1,q1⟩:=r1.get (i:=j) (x:=vs[j]) (by simp[hv]);obtain⟨u',e2,q2⟩:=r2.get (i:=j) (x:=ws[j]) (by simp[hw]);obtain⟨v,e3,q3⟩:=i1.get (i:=j) (d:=ds[j]) (by simp[hd]);obtain⟨w,e4,q4⟩:=i2.get (i:=j) (d:=es[j]) (by simp[he]);have a1:its.toArray[j]=u:=by have z:=(vV e1).2;simpa using z
 have a2:nH.toArray[j]=u':=by have z:=(vV e2).2;simpa using z
 have a3:vs[j]=v:=by simpa [hv]using e3
 have a4:ws[j]=w:=by simpa [hw]using e4
 have a5:ds.getD j .non=ds[j]:=by simp[List.getD,hd]
 have a6:es.getD j .non=es[j]:=by simp[List.getD,he]
 rw[a1,a2,a5,a6];exact ih (Du p1 (j:=j) (by simp[hd])) (Du p2 (j:=j) (by simp[he])) (a3 ▸ q3) (a4 ▸ q4) q1 q2
theorem uK {xs ys:List D}(j:Nat)(x y:D)(h1:xs[j]? = some x)(h2:ys[j]? = some y):cU (xs.getD j .non) (ys.getD j .non)=cU x y:=by
 simp[List.getD,h1,h2]
abbrev Kw (A:Around)(s:Shared)(u1 u2:Value)(b:Bool):Prop:=SeqAt.RcAt A s u1 u2 b/\SeqAt.EqAt A s u1 u2 b/\SeqAt.RcNeAt A s u1 u2 (!b)
theorem uL {a1 a2:Addr}(rc:SeqAt.RcAt A s (.ref a1) (.ref a2) b)(rn:SeqAt.RcNeAt A s (.ref a1) (.ref a2) (!b))(h:a1=a2->b=true):Kw A s (.ref a1) (.ref a2) b:=by
 refine⟨rc,?_,rn⟩;by_cases ha:a1=a2
 ·subst ha;rw[h rfl];exact SeqAt.EqAt.same _
 ·exact SeqAt.EqAt.of_refs ha rc
theorem qO (p1:aN 0 d1=true)(p2:aN 0 d2=true)(i1:Is X.K H v1 d1)(i2:Is X.K H v2 d2)(r1:aK v1 u1)(r2:aK v2 u2):Kw A s u1 u2 (cU d1 d2):=by
 cases i1 with
 |non=>
  cases r1
  cases i2 with
  |non=>cases r2;rw[cU];exact⟨.none_none,.same _,.none_none⟩
  |bl b=>cases r2;simp only[cU];exact⟨.none_bool _,.none_bool _,.none_bool _⟩
  |int b=>obtain⟨t',rfl⟩:=r2;simp only[cU];exact⟨.none_int _ _,.none_int _ _,.none_int _ _⟩
  |str b=>obtain⟨t',rfl⟩:=r2;simp only[cU];exact⟨.none_str _ _,.none_str _ _,.none_str _ _⟩
  |_=>simp at p2
 |bl a=>
  cases r1
  cases i2 with
  |non=>cases r2;simp only[cU];exact⟨.bool_none _,.bool_none _,.bool_none _⟩
  |bl b=>cases r2;rw[cU];exact⟨.bool_bool _ _,.bool_bool _ _,.bool_bool _ _⟩
  |int b=>obtain⟨t',rfl⟩:=r2;rw[cU,←Bool.beq_eq_decide_eq];exact⟨.bool_int _ _ _,.bool_int _ _ _,.bool_int _ _ _⟩
  |str b=>obtain⟨t',rfl⟩:=r2;simp only[cU];exact⟨.bool_str _ _ _,.bool_str _ _ _,.bool_str _ _ _⟩
  |_=>simp at p2
 |int a=>
  obtain⟨t,rfl⟩:=r1;cases i2 with
  |non=>cases r2;simp only[cU];exact⟨.int_none _ _,.int_none _ _,.int_none _ _⟩
  |bl b=>cases r2;rw[cU,←Bool.beq_eq_decide_eq];exact⟨.int_bool _ _ _,.int_bool _ _ _,.int_bool _ _ _⟩
  |int b=>obtain⟨t',rfl⟩:=r2;rw[cU,←Bool.beq_eq_decide_eq];exact⟨.int_int _ _ _ _,.int_int _ _ _ _,.int_int _ _ _ _⟩
  |str b=>obtain⟨t',rfl⟩:=r2;simp only[cU];exact⟨.int_str _ _ _ _,.int_str _ _ _ _,.int_str _ _ _ _⟩
  |_=>simp at p2
 |str a=>
  obtain⟨t,rfl⟩:=r1;cases i2 with
  |non=>cases r2;simp only[cU];exact⟨.str_none _ _,.str_none _ _,.str_none _ _⟩
  |bl b=>cases r2;simp only[cU];exact⟨.str_bool _ _ _,.str_bool _ _ _,.str_bool _ _ _⟩
  |int b=>obtain⟨t',rfl⟩:=r2;simp only[cU];exact⟨.str_int _ _ _ _,.str_int _ _ _ _,.str_int _ _ _ _⟩
  |str b=>obtain⟨t',rfl⟩:=r2;rw[cU,←Bool.beq_eq_decide_eq];exact⟨.str_str _ _ _ _,.str_str _ _ _ _,.str_str _ _ _ _⟩
  |_=>simp at p2
 |_=>simp at p1
theorem Dv (I:Inv X aa σ H s):∀(n:Nat){A:Around}{v1 v2:V}{d1 d2:D}{u1 u2:Value},A.units+n<cLine->aN n d1=true->aN n d2=true->Is X.K H v1 d1->Is X.K H v2 d2->aK v1 u1->aK v2 u2->Kw A s u1 u2 (cU d1 d2):=by
 intro n;induction n with
 |zero=>exact λ_ p1 p2 i1 i2 r1 r2=>qO p1 p2 i1 i2 r1 r2
 |succ n ih=>
  intro A v1 v2 d1 d2 u1 u2 hu p1 p2 i1 i2 r1 r2;have dz:A.units<cLine:=by omega
  have IJ:∀ {v1 v2:V}{d1 d2:D}{u1 u2:Value},aN n d1=true->aN n d2=true->Is X.K H v1 d1->Is X.K H v2 d2->aK v1 u1->aK v2 u2->SeqAt.EqAt A.in1 s u1 u2 (cU d1 d2):=λp1 p2 i1 i2 r1 r2=>(ih (A:=A.in1) (by show A.units+1+n<cLine;omega) p1 p2 i1 i2 r1 r2).2.1;by_cases f2:aN 0 d2=true
  ·by_cases f1:aN 0 d1=true
   ·exact qO f1 f2 i1 i2 r1 r2
   ·cases i1 with
    |tup h1 k1=>
     cases r1
     obtain⟨its,CU,t1,z1⟩:=I.tuple h1;cases i2 with
     |non=>cases r2;simp only[cU];exact⟨.tuple_none t1 dz,.tuple_none t1 dz,.tuple_none t1 dz⟩
     |bl=>cases r2;simp only[cU];exact⟨.tuple_bool _ t1 dz,.tuple_bool _ t1 dz,.tuple_bool _ t1 dz⟩
     |int=>obtain⟨t,rfl⟩:=r2;simp only[cU];exact⟨.tuple_int _ _ t1 dz,.tuple_int _ _ t1 dz,.tuple_int _ _ t1 dz⟩
     |str=>obtain⟨t,rfl⟩:=r2;simp only[cU];exact⟨.tuple_str _ _ t1 dz,.tuple_str _ _ t1 dz,.tuple_str _ _ t1 dz⟩
     |_=>simp at f2
    |lst h1 k1=>
     cases r1
     obtain⟨its,CU,t1,z1⟩:=I.list h1;replace t1:=t1.isList;cases i2 with
     |non=>cases r2;simp only[cU];exact⟨.list_none t1 dz,.list_none t1 dz,.list_none t1 dz⟩
     |bl=>cases r2;simp only[cU];exact⟨.list_bool _ t1 dz,.list_bool _ t1 dz,.list_bool _ t1 dz⟩
     |int=>obtain⟨t,rfl⟩:=r2;simp only[cU];exact⟨.list_int _ _ t1 dz,.list_int _ _ t1 dz,.list_int _ _ t1 dz⟩
     |str=>obtain⟨t,rfl⟩:=r2;simp only[cU];exact⟨.list_str _ _ t1 dz,.list_str _ _ t1 dz,.list_str _ _ t1 dz⟩
     |_=>simp at f2
    |_=>simp at f1 p1
  ·cases i2 with
   |tup h2 k2=>
    cases r2
    obtain⟨nH,IT,t2,z2⟩:=I.tuple h2;cases i1 with
    |tup h1 k1=>
     cases r1
     obtain⟨its,CU,t1,z1⟩:=I.tuple h1;rename_i a2 ws es a1 vs ds;have he:=qN (A:=A.in1) (p:=aN n) IJ k1 k2 CU IT (by simpa using p1) (by simpa using p2);have Lk:((List.range (min its.toArray.size nH.toArray.size)).all (λj=>cU (ds.getD j .non) (es.getD j .non)) && its.toArray.size == nH.toArray.size)=cU (.tup ds) (.tup es):=by
      rw[cU,vH,vH,←CU.length,←IT.length,k1.length,k2.length];by_cases hl:ds.length=es.length
      ·rw[←hl,Nat.min_self,beq_self_eq_true,Bool.and_true];exact jj _ hl λj x y e1 e2=>uK j x y e1 e2
      ·rw[uF hl,beq_eq_false_iff_ne.mpr hl,Bool.and_false]
     have rc:=SeqAt.RcAt.tuples t1 t2 dz he;have rn:=SeqAt.RcNeAt.tuples t1 t2 dz he;rw[Lk]at rc rn;exact uL rc rn λe=>by subst e;exact uJ I (n+1) (.tup h1 k1) (.tup h2 k2) p1
    |lst h1 k1=>cases r1;obtain⟨its,CU,t1,z1⟩:=I.list h1;simp only[cU];exact⟨.list_tuple t1.isList t2 dz,.list_tuple t1.isList t2 dz,.list_tuple t1.isList t2 dz⟩
    |non=>cases r1;simp only[cU];exact⟨.none_tuple t2 dz,.none_tuple t2 dz,.none_tuple t2 dz⟩
    |bl=>cases r1;simp only[cU];exact⟨.bool_tuple _ t2 dz,.bool_tuple _ t2 dz,.bool_tuple _ t2 dz⟩
    |int=>obtain⟨t,rfl⟩:=r1;simp only[cU];exact⟨.int_tuple _ _ t2 dz,.int_tuple _ _ t2 dz,.int_tuple _ _ t2 dz⟩
    |str=>obtain⟨t,rfl⟩:=r1;simp only[cU];exact⟨.str_tuple _ _ t2 dz,.str_tuple _ _ t2 dz,.str_tuple _ _ t2 dz⟩
    |_=>simp at p1
   |lst h2 k2=>
    cases r2
    obtain⟨nH,IT,t2,z2⟩:=I.list h2;replace t2:=t2.isList;cases i1 with
    |lst h1 k1=>
     cases r1
     obtain⟨its,CU,t1,z1⟩:=I.list h1;replace t1:=t1.isList;rename_i a2 ws es a1 vs ds;have he:=qN (A:=A.in1) (p:=aN n) IJ k1 k2 CU IT (by simpa using p1) (by simpa using p2);have both:SeqAt.RcAt A s (.ref a1) (.ref a2) (cU (.lst ds) (.lst es))/\SeqAt.RcNeAt A s (.ref a1) (.ref a2) (!cU (.lst ds) (.lst es)):=by
      have hz:its.toArray.size=ds.length/\nH.toArray.size=es.length:=by rw[vH,vH,←CU.length,←IT.length,k1.length,k2.length];exact⟨rfl,rfl⟩
      by_cases hl:ds.length=es.length
      ·have Lk:(List.range its.toArray.size).all (λj=>cU (ds.getD j .non) (es.getD j .non))=cU (.lst ds) (.lst es):=by
        rw[cU,hz.1];exact jj _ hl λj x y e1 e2=>uK j x y e1 e2
       have hs:=(hz.1.trans hl).trans hz.2.symm;have rc:=SeqAt.RcAt.lists t1 t2 hs dz he;have rn:=SeqAt.RcNeAt.lists t1 t2 hs dz he;rw[Lk]at rc rn;exact⟨rc,rn⟩
      ·have hs:(its.toArray.size != nH.toArray.size)=true:=by rw[hz.1,hz.2];exact bne_iff_ne.mpr hl
       rw[cU,uF hl];exact⟨.lists_lengths t1 t2 hs dz,.lists_lengths t1 t2 hs dz⟩
     exact uL both.1 both.2 λe=>by subst e;exact uJ I (n+1) (.lst h1 k1) (.lst h2 k2) p1
    |tup h1 k1=>cases r1;obtain⟨its,CU,t1,z1⟩:=I.tuple h1;simp only[cU];exact⟨.tuple_list t1 t2 dz,.tuple_list t1 t2 dz,.tuple_list t1 t2 dz⟩
    |non=>cases r1;simp only[cU];exact⟨.none_list t2 dz,.none_list t2 dz,.none_list t2 dz⟩
    |bl=>cases r1;simp only[cU];exact⟨.bool_list _ t2 dz,.bool_list _ t2 dz,.bool_list _ t2 dz⟩
    |int=>obtain⟨t,rfl⟩:=r1;simp only[cU];exact⟨.int_list _ _ t2 dz,.int_list _ _ t2 dz,.int_list _ _ t2 dz⟩
    |str=>obtain⟨t,rfl⟩:=r1;simp only[cU];exact⟨.str_list _ _ t2 dz,.str_list _ _ t2 dz,.str_list _ _ t2 dz⟩
    |_=>simp at p1
   |_=>simp at f2 p2
@[simp] def cI:D->D->OB:=λx y=>if aN 40 x=true/\aN 40 y=true then some (.bl (cU x y),false)else none
@[simp] def tt:D->D->OB:=λx y=>if aN 40 x=true/\aN 40 y=true then some (.bl (!cU x y),false)else none
theorem bL (hu:X.A.units+40<cLine):c6 X (compareOp .Eq) (rD X.K cI):=by
 intro aa s σ H x y v u Q I rx ry q;obtain⟨B,dx,dy,d,b,sB,ix,iy,e,q⟩:=q;unfold cI at e;split at e
 ·rename_i hp;cases e
  exact(Dv I 40 hu hp.1 hp.2 (ix.mono sB) (iy.mono sB) rx ry).1 _ _ _ _ ⟨.bl _,H,I,rfl,q.one sB (.bl _)⟩
 ·cases e
theorem nv (hu:X.A.units+40<cLine):c6 X (compareOp .NotEq) (rD X.K tt):=by
 intro aa s σ H x y v u Q I rx ry q;obtain⟨B,dx,dy,d,b,sB,ix,iy,e,q⟩:=q;unfold tt at e;split at e
 ·rename_i hp;cases e
  exact(Dv I 40 hu hp.1 hp.2 (ix.mono sB) (iy.mono sB) rx ry).2.2 _ _ _ _ ⟨.bl _,H,I,rfl,q.one sB (.bl _)⟩
 ·cases e
end
section
variable {X:Cx}{a b e:Expr}{pos:Pos}
theorem uO {K:Frag}{H:Hp}{vs:List V}{ds:List D}{i:Int}{d:D}(h:IsL K H vs ds)(e:nn ds i=some d):∃v,nn vs i=some v/\Is K H v d:=by
 unfold nn at e ⊢;rw[h.length];cases q:y9 ds.length i with
 |none=>rw[q]at e;cases e
 |some j=>rw[q]at e;exact h.get e
@[simp] def cb:D->D->OB
 |.lst ds,.int i=>(nn ds i).map λd=>(d,false)
 |.tup ds,.int i=>(nn ds i).map λd=>(d,false)
 |.str z,.int i=>if z.length<=sizeLine then (nn z.cps.toList i).map λc=>(.str ⟨#[c]⟩,false)else none
 |_,_=>none
theorem Kx:yA X (rD X.K cb):=by
 intro value slice aa s σ H x y v u Q I rx ry q hs;obtain⟨B,dx,dy,d,b,sB,ix,iy,e,q⟩:=q;cases ix<;>try (cases e;done)
 all_goals (cases iy<;>try (cases e;done))
 ·simp only[cb]at e;split at e
  ·rename_i hz;obtain⟨c,e1,e2⟩:=oY e;cases e2
   exact lK value slice aa s σ H _ _ v u Q I rx ry ⟨_,_,c,rfl,rfl,hz,e1,q.one sB (.str _)⟩ hs
  ·cases e
 ·rename_i h hl i;simp only[cb]at e;obtain⟨c,e1,e2⟩:=oY e;cases e2
  obtain⟨w,h1,h2⟩:=uO hl e1;exact yC value slice aa s σ H _ _ v u Q I rx ry ⟨_,_,_,w,rfl,rfl,aQ sB h,h1,q.one sB h2⟩ hs
 ·rename_i h hl i;simp only[cb]at e;obtain⟨c,e1,e2⟩:=oY e;cases e2
  obtain⟨w,h1,h2⟩:=uO hl e1;exact Bz value slice aa s σ H _ _ v u Q I rx ry ⟨_,_,_,w,rfl,rfl,sB.seq h,h1,q.one sB h2⟩ hs
theorem ca (ha:JE X a fa)(hb:JE X b fb)(hs:lu b:=by intro _ _;rfl):JE X (.Subscript a b pos) (f2 cb fa fb):=PE.to (yB Kx ha hb hs) λ_ _ _ h=>B9 h
abbrev FO:=Env->Option (Option Int)
def NL (K:Frag)(f:FO):TO:=λσ H Q=>∃(B:Hp)(ρ:Env)(o:Option Int),aM B H/\dJ K B σ ρ/\f ρ=some o/\∀H',aM H H'->Q o H'
abbrev JO (X:Cx)(e:Option Expr)(f:FO):Prop:=PO X e (NL X.K f)
@[simp] noncomputable def cC:FO:=λ_=>some none
@[simp] noncomputable def bR (f:FE):FO:=λρ=>match f ρ with|some (.int i,_)=>some (some i)|_=>none
theorem cJ:JO X none cC:=λaa s σ H Q I h=>Bu aa s σ H Q I (by
 obtain⟨B,ρ,o,sB,r,e,q⟩:=h;cases e
 exact q H (.refl H))
theorem cj (h:JE X e f):JO X (some e) (bR f):=λaa s σ H Q I q=>Bv h aa s σ H Q I (by
 obtain⟨B,ρ,o,sB,r,e,q⟩:=q;unfold bR at e;split at e
 ·rename_i i b' ef;cases e
  refine⟨B,ρ,_,_,sB,r,ef,λv H1 N1 x1 i1 _=>?_⟩;cases i1
  exact⟨i,rfl,q H1 x1.hh⟩
 ·cases e)
def iP (ds:List D)(lo hi:Option Int):List D:=(ds.drop (HT.cM ds.length 0 lo)).take (HT.cM ds.length ds.length hi - HT.cM ds.length 0 lo)
theorem pG {K:Frag}{H:Hp}{vs:List V}{ds:List D}{lo hi:Option Int}(h:IsL K H vs ds):IsL K H (nk vs lo hi) (iP ds lo hi):=by
 unfold nk iP;rw[h.length];exact(h.drop _).take _
theorem bG.to (h:bG X f r)(k:∀xs H Q,r' xs H Q->r xs H Q):bG X f r':=λaa s σ H xs us Q I rs q=>h aa s σ H xs us Q I rs (k xs H Q q)
variable {es:List Expr}{x:Str}{p:Pos}{id T:String}
theorem av (hc:bG X (.builtin id) (yn X.K f))(hm:X.mg x=none)(hv:bootBuiltins x=some (.builtin id))(ha:JA X (e::es) fa)(hg:Gl X x:=by rfl)(hn:x ≠ "__name__":=by decide)(sI:(x == ("__debug__" : Str))=false:=by decide)
  (he:starEach (e::es) X.env=(false,eval e X.env)::starEach es X.env:=by rfl) (ng:(backTo pos (starEach es X.env)).any (·.1)=false:=by rfl):JE X (.Call (.Name x p) (e::es) [] pos) (fA f fa):=PE.to (lI hc hg hm hv ha hn sI he ng) λ_ _ _ h=>BA h
theorem aR (hc:bG X (.type T) (yn X.K f))(hm:X.mg x=none)(hv:bootBuiltins x=some (.type T))(ha:JA X (e::es) fa)(hg:Gl X x:=by rfl)(hn:x ≠ "__name__":=by decide)(sI:(x == ("__debug__" : Str))=false:=by decide)
  (he:starEach (e::es) X.env=(false,eval e X.env)::starEach es X.env:=by rfl) (ng:(backTo pos (starEach es X.env)).any (·.1)=false:=by rfl):JE X (.Call (.Name x p) (e::es) [] pos) (fA f fa):=PE.to (ko hc hg hm hv ha hn sI he ng) λ_ _ _ h=>BA h
@[simp] noncomputable def bQ:List D->OB
 |[.lst ds]=>some (.int ds.length,false)
 |[.tup ds]=>some (.int ds.length,false)
 |[.str z]=>if z.length<=sizeLine then some (.int z.length,false)else none
 |_=>none
theorem c8:bG X (.builtin "len") (yn X.K bQ):=by
 refine bG.to (bG.or p4 p5) λxs H Q q=>?_;obtain⟨B,ds,d,b,sB,i,e,q⟩:=q;cases i with
 |nil=>simp[bQ]at e
 |cons i1 i2=>
  cases i2 with
  |cons _ _=>cases i1<;>simp[bQ]at e
  |nil=>
   cases i1<;>try (simp[bQ]at e;done)
   ·simp only[bQ]at e;split at e
    ·rename_i hz;cases e
     exact .inr ⟨_,rfl,hz,q.one sB (.int _)⟩
    ·cases e
   ·rename_i h hl;simp only[bQ]at e;cases e
    refine .inl ⟨_,_,rfl,.inr (aQ sB h),?_⟩;rw[hl.length];exact q.one sB (.int _)
   ·rename_i h hl;simp only[bQ]at e;cases e
    refine .inl ⟨_,_,rfl,.inl (sB.seq h),?_⟩;rw[hl.length];exact q.one sB (.int _)
theorem df (hm:X.mg x=none)(hv:bootBuiltins x=some (.type n))(hg:Gl X x:=by rfl)(hn:x ≠ "__name__":=by decide)(hd:(x == ("__debug__" : Str))=false:=by decide):JE X (.Name x pos) (fC (.ty n)) :=
 PE.to (Be hg hm hv (v:=.ty n) rfl hn hd) λ_ _ _ h=>wV (λ_=>.ty n) h
end
theorem HE (hr:eJ k A):A.units+40<cLine:=by have:=hr.un;omega
section
variable {X:Cx}{a b e:Expr}{pos:Pos}{x:Str}{p:Pos}
theorem bw (h:∃u v,X.mg x=some u/\aK v u/\∀B,Is X.K B v d)(hg:Gl X x:=by rfl)(hd:(x == ("__debug__" : Str))=false:=by decide):JE X (.Name x pos) (fC d):=by
 obtain⟨u,v,hm,r,i⟩:=h;exact BL hg hm r i hd
@[simp] noncomputable def uT:D->D->OB
 |.int i,.int j=>some (.int (i+j),false)
 |.str i,.str j=>if i.length+j.length<=sizeLine then some (.str (i++j),false)else none
 |_,_=>none
theorem BS:c6 X (binaryOp .Add) (rD X.K uT):=by
 refine ia (r:=rD X.K (AO EN BP)) (lX Hx ER) λx y H Q q=>?_;obtain⟨B,dx,dy,d,b,sB,ix,iy,e,q⟩:=q;refine⟨B,dx,dy,d,b,sB,ix,iy,?_,q⟩;cases dx<;>try (cases e;done)
 all_goals (cases dy<;>try (cases e;done))
 all_goals (simp[uT]at e;simp[AO,EN,BP,nu,Go,e])
@[simp] def iQ:D->D->OB:=Hu
theorem jk:c6 X (binaryOp .Mult) (rD X.K iQ):=Hy
@[simp] def yY:D->D->OB:=Ml
theorem nW:c6 X (compareOp .Lt) (rD X.K yY):=Kt
@[simp] noncomputable def kx:D->D->OB
 |.int i,.int j=>some (.bl (decide (i<=j)),false)
 |.str i,.str j=>some (.bl (!decide (j.cps.toList<i.cps.toList)),false)
 |_,_=>none
theorem gk:c6 X (compareOp .LtE) (rD X.K kx):=by
 refine ia (r:=rD X.K (AO Ks Ju)) (lX Ku HC) λx y H Q q=>?_;obtain⟨B,dx,dy,d,b,sB,ix,iy,e,q⟩:=q;refine⟨B,dx,dy,d,b,sB,ix,iy,?_,q⟩;cases dx<;>try (cases e;done)
 all_goals (cases dy<;>try (cases e;done))
 all_goals (simp[kx]at e;simp[AO,Ks,Ju,nu,Go,e])
@[simp] noncomputable def BU:D->OB
 |.int i=>some (.int (-i),false)
 |_=>none
theorem HF:GP X (unaryOp .USub) (Kq X.K BU):=by
 intro aa s σ H x v Q I rx q;obtain⟨B,dx,d,b,sB,ix,e,q⟩:=q;cases ix<;>try (simp[BU]at e;done)
 simp only[BU]at e;cases e
 exact Ez aa s σ H _ v Q I rx ⟨_,rfl,q.one sB (.int _)⟩
@[simp] noncomputable def gm:D->D->Option Bool
 |.non,.non=>some true
 |_,.non=>some false
 |.bl a,.bl b=>some (a == b)
 |_,.bl _=>some false
 |_,_=>none
@[simp] def yZ:D->D->OB:=λx y=>(gm x y).map λb=>(.bl b,false)
@[simp] def pH:D->D->OB:=λx y=>(gm x y).map λb=>(.bl (!b),false)
theorem uV {K:Frag}{B:Hp}{x y:V}{v u:Value}{dx dy:D}{k:Bool}(ix:Is K B x dx)(iy:Is K B y dy)(rx:aK x v)(ry:aK y u)(e:gm dx dy=some k):plainIs v u=true/\(v == u)=k:=by
 cases iy<;>(first|(cases dx<;>simp[gm]at e;done)|skip)
 all_goals (cases ix)
 all_goals (first|(obtain⟨t,rfl⟩:=rx)|cases rx)
 all_goals (cases ry)
 all_goals (simp only[gm,Option.some.injEq]at e;subst e)
 all_goals (first|exact⟨rfl,rfl⟩|skip)
 all_goals (rename_i c d;cases c<;>cases d<;>exact⟨rfl,rfl⟩)
theorem tu:c6 X (compareOp .Is) (rD X.K yZ):=by
 intro aa s σ H x y v u Q I rx ry q;obtain⟨B,dx,dy,d,b,sB,ix,iy,e,q⟩:=q;obtain⟨k,ek,e⟩:=oY e;cases e
 obtain⟨h1,h2⟩:=uV ix iy rx ry ek;refine wpAny_is_plain h1 ⟨.bl k,H,I,by rw[h2];rfl,q.one sB (.bl _)⟩
theorem BV:c6 X (compareOp .IsNot) (rD X.K pH):=by
 intro aa s σ H x y v u Q I rx ry q;obtain⟨B,dx,dy,d,b,sB,ix,iy,e,q⟩:=q;obtain⟨k,ek,e⟩:=oY e;cases e
 obtain⟨h1,h2⟩:=uV ix iy rx ry ek;refine wpAny_isNot_plain h1 ⟨.bl (!k),H,I,by rw[h2];rfl,q.one sB (.bl _)⟩
@[simp] noncomputable def fm:D->Bool
 |.non=>true|.bl _=>true|.int _=>true|.str _=>true
 |_=>false
noncomputable def Dw (x:D)(ds:List D):Bool:=ds.any λy=>cU y x
@[simp] noncomputable def ib:D->Option (List D)
 |.lst ds=>some ds
 |.tup ds=>some ds
 |_=>none
@[simp] def sO:D->D->OB:=λx y=>(ib y).bind λds=>if fm x=true/\ds.all fm=true then some (.bl (Dw x ds),false)else none
theorem tw {K:Frag}{B:Hp}{v:V}{d:D}(i:Is K B v d)(h:fm d=true):iU v=true:=by
 cases i<;>first|rfl|(simp[fm]at h)
theorem Ky {K:Frag}{B:Hp}{v w:V}{d e:D}(i:Is K B v d)(j:Is K B w e)(h:fm d=true)(h':fm e=true):AN v w=cU d e:=by
 cases i<;>(first|(simp[fm]at h;done)|skip)
 all_goals (cases j<;>(first|(simp[fm]at h';done)|skip))
 all_goals (simp only[AN,cU,Bool.beq_eq_decide_eq])
theorem za {K:Frag}{B:Hp}:∀ {vs:List V}{ds:List D},IsL K B vs ds->ds.all fm=true->vs.all iU=true
 |_,_,.nil,_=>rfl
 |_,_,.cons i t,h=>by
  rw[List.all_cons,vD]at h;rw[List.all_cons,tw i h.1,za t h.2];rfl
theorem ET {K:Frag}{B:Hp}{v:V}{d:D}(j:Is K B v d)(hd:fm d=true):∀ {vs:List V}{ds:List D},IsL K B vs ds->ds.all fm=true->Jt v vs=Dw d ds
 |_,_,.nil,_=>rfl
 |_,_,.cons i t,h=>by
  rw[List.all_cons,vD]at h;have e:=ET j hd t h.2;unfold Jt Dw at *;rw[List.any_cons,List.any_cons,e,Ky i j h.1 hd]
theorem va:c6 X (compareOp .In) (rD X.K sO):=by
 refine ia wM λx y H Q q=>?_;obtain⟨B,dx,dy,d,b,sB,ix,iy,e,q⟩:=q;obtain⟨ds,es,e⟩:=oX e;split at e
 ·rename_i hf;cases e
  cases iy<;>simp only[ib]at es<;>try (cases es;done)
  ·rename_i h hl;cases es
   exact⟨_,_,rfl,.inr (aQ sB h),tw ix hf.1,za hl hf.2,by rw[if_neg (by decide),ET ix hf.1 hl hf.2];exact q.one sB (.bl _)⟩
  ·rename_i h hl;cases es
   exact⟨_,_,rfl,.inl (sB.seq h),tw ix hf.1,za hl hf.2,by rw[if_neg (by decide),ET ix hf.1 hl hf.2];exact q.one sB (.bl _)⟩
 ·cases e
theorem cm:bootBuiltins "len" = some (.builtin "len"):=PySem.boot_len
theorem aC:bootBuiltins "isinstance" = some (.builtin "isinstance"):=by decide +kernel
theorem vc:bootBuiltins "min" = some (.builtin "min"):=by decide +kernel
theorem nX:bootBuiltins "all" = some (.builtin "all"):=by decide +kernel
theorem ve:bootBuiltins "int" = some (.type "int"):=by decide +kernel
theorem zc:bootBuiltins "bool" = some (.type "bool"):=by decide +kernel
theorem gn:bootBuiltins "str" = some (.type "str"):=by decide +kernel
theorem ky:bootBuiltins "list" = some (.type "list"):=by decide +kernel
theorem bV:bootBuiltins "tuple" = some (.type "tuple"):=by decide +kernel
@[simp] noncomputable def NM:List D->OB
 |[.int i,.int j]=>some (.int (if j > i then j else i),false)
 |_=>none
@[simp] noncomputable def lm:List D->OB
 |[.int i,.int j]=>some (.int (if j<i then j else i),false)
 |_=>none
theorem zd {K:Frag}{B:Hp}{xs:List V}{i j:Int}(h:IsL K B xs [.int i,.int j]):xs=[.int i,.int j]:=by
 cases h with
 |cons h1 h2=>cases h1;cases h2 with|cons h3 h4=>cases h3;cases h4;rfl
theorem vf (hc:X.calm=true:=by rfl):bG X (.builtin "min") (yn X.K lm):=by
 refine bG.to (wJ hc) λxs H Q q=>?_;obtain⟨B,ds,d,b,sB,i,e,q⟩:=q;match ds,e with
 |[.int i',.int j'],e=>simp only[lm]at e;cases e;exact⟨i',j',zd i,q.one sB (.int _)⟩
@[simp] noncomputable def ft:D->String
 |.non=>"NoneType" | .bl _=>"bool" | .int _=>"int" | .str _=>"str" | .ty _=>"type" | .tup _=>"tuple" | .lst _=>"list" | .dk _ _=>"dict" | .dt _ _=>"dict"
@[simp] noncomputable def qP:D->Bool
 |.ty _=>true
 |_=>false
@[simp] noncomputable def vg (t n:String):OB :=
 if n = "int" then some (.bl (t == "int" || t == "bool"),false)else if n = "bool" then some (.bl (t == "bool"),false)else if n = "str" then some (.bl (t == "str"),false)
 else if n = "list" then some (.bl (t == "list"),false)else if n = "tuple" then some (.bl (t == "tuple"),false)else none
@[simp] def aF:List D->OB
 |[d,.ty n]=>if qP d=true then none else vg (ft d) n
 |_=>none
theorem BW {aa:List (Addr×Obj)}{σ:St}{H:Hp}{s:Shared}{A:Around}{E:Value->Shared->Prop}{Q:Value->Shared->Prop}{c:Value}{b:Bool}{v:V}{d:D}{u:Value}(I:Inv X aa σ H s)(i:Is X.K H v d)(hd:∀n,d≠.ty n)(rx:aK v u)(e:PySem.W.kitOne X.K (.type (ft d)) c=some b)(h:∀tk,Q (.bool b) { s with toks:=tk }):
  wpAny (model X.prog X.w) A (call (.builtin "isinstance") [u,c]) Q E s:=by
 cases i with
 |non=>exact eU I rx .non e h
 |bl y=>exact eU I rx (.bl y) e h
 |int y=>exact eU I rx (.int y) e h
 |str y=>exact eU I rx (.str y) e h
 |ty n=>exact absurd rfl (hd n)
 |dk h1 _ _=>exact eU I rx (.dK h1) e h
 |dt h1 _ _=>exact eU I rx (.dT h1) e h
 |tup ht _=>
  cases rx
  obtain⟨its,_,⟨o,h1,h2,_⟩,_⟩:=I.tuple ht;exact kia_one PySem.W.kitx_tuple I.kIn ⟨o,h1,h2⟩ e (λz=>nomatch z) h
 |lst hl _=>
  cases rx
  obtain⟨its,_,⟨o,n,h1,h2,_⟩,_⟩:=I.list hl;exact kia_one PySem.W.kitx_list I.kIn ⟨o,h1,h2⟩ e (λz=>nomatch z) h
theorem ze (K:Frag)(d:D)(hd:∀n,d≠.ty n):
  PySem.W.kitOne K (.type (ft d)) (.type "int")=some (ft d == "int" || ft d == "bool")/\PySem.W.kitOne K (.type (ft d)) (.type "bool")=some (ft d == "bool")/\PySem.W.kitOne K (.type (ft d)) (.type "str")=some (ft d == "str") /\
   PySem.W.kitOne K (.type (ft d)) (.type "list")=some (ft d == "list")/\PySem.W.kitOne K (.type (ft d)) (.type "tuple")=some (ft d == "tuple"):=by
 cases d<;>(first|exact absurd rfl (hd _)|skip)
 all_goals (simp only[ft];refine⟨?_,?_,?_,?_,?_⟩<;>kernel_rfl)
theorem aE:bG X (.builtin "isinstance") (yn X.K aF):=by
 intro aa s σ H xs us Q I rs q;obtain⟨B,ds,d,b,sB,i,e,q⟩:=q;cases i with
 |nil=>cases e
 |cons i1 i=>cases i with
 |nil=>cases e
 |cons i2 i=>
  cases i2<;>try (cases e;done)
  cases i<;>try (cases e;done)
  rename_i dx n;obtain⟨u1,u2,rfl,r1,r2⟩:=y3 rs;cases r2
  simp only[aF]at e;split at e
  ·cases e
  ·rename_i ht;have hd:∀n,dx≠.ty n:=λn z=>by subst z;exact ht rfl
   obtain⟨k1,k2,k3,k4,k5⟩:=ze X.K dx hd;have hW:∀ {k:Bool},PySem.W.kitOne X.K (.type (ft dx)) (.type n)=some k->Fin X.K B H (.bl k) false Q->wq X (call (.builtin "isinstance") [u1,.type n]) (EP X aa σ Q) X.xe s:=λ{k} hk q=>
    BW I (i1.mono sB) hd r1 hk λtk=>⟨.bl k,H,I.tok tk,rfl,q.one sB (.bl k)⟩
   unfold vg at e;split at e
   ·rename_i z;subst z;cases e;exact hW k1 q
   split at e
   ·rename_i z;subst z;cases e;exact hW k2 q
   split at e
   ·rename_i z;subst z;cases e;exact hW k3 q
   split at e
   ·rename_i z;subst z;cases e;exact hW k4 q
   split at e
   ·rename_i z;subst z;cases e;exact hW k5 q
   ·cases e
@[simp] noncomputable def vh:D->OB
 |.int i=>some (.int (Builtin.Int.intBits i),false)
 |_=>none
@[simp] def zf (f:FE):FA:=λρ=>(f ρ).bind λx=>ib x.1
theorem vi (h:JE X e f):JI X tg e (zf f):=by
 intro aa s σ H R I q;obtain⟨B,ρ,ds,sB,r,e',q⟩:=q;obtain⟨x,ex,es⟩:=oX e';obtain⟨xd,xb⟩:=x;cases xd<;>simp only[ib]at es<;>try (cases es;done)
 ·cases es
  refine Em h aa s σ H R I ⟨B,ρ,_,_,sB,r,ex,λv H1 N1 x1 i1 _=>?_⟩;cases i1 with
  |@tup a vs _ ht hl=>
   refine⟨a,rfl,⟨vs,aQ x1.nh ht⟩,q _ H1 N1 x1 λi H2 s2=>⟨λd ed=>?_,λbD=>⟨vs,aQ s2 ht,by rw[hl.length];exact bD⟩⟩⟩;obtain⟨v,ev,iv⟩:=hl.get ed;refine⟨⟨vs,v,aQ s2 ht,ev⟩,λy H3 hy=>?_⟩;obtain⟨rfl,hy⟩:=hy;have:=hy vs (aQ s2 ht);rw[ev]at this;cases this;exact⟨N1,.refl s2,iv⟩
 ·cases es
  refine Bi h aa s σ H R I ⟨B,ρ,_,_,sB,r,ex,λv H1 N1 x1 i1 _=>?_⟩;cases i1 with
  |@lst a vs _ ht hl=>
   refine⟨a,rfl,⟨vs,x1.nh.seq ht⟩,q _ H1 N1 x1 λi H2 s2=>⟨λd ed=>?_,λbD=>⟨vs,s2.seq ht,by rw[hl.length];exact bD⟩⟩⟩;obtain⟨v,ev,iv⟩:=hl.get ed;refine⟨⟨vs,v,s2.seq ht,ev⟩,λy H3 hy=>?_⟩;obtain⟨rfl,hy⟩:=hy;have:=hy vs (s2.seq ht);rw[ev]at this;cases this;exact⟨N1,.refl s2,iv⟩
noncomputable def cG (lo:Int)(n:Nat):List D:=(List.range n).map λ(k:Nat)=>.int (lo+(k:Int))
theorem qQ {K:Frag}{B:Hp}(lo:Int)(n:Nat):lj K (GK lo n) B (cG lo n):=by
 intro i H s;unfold cG;refine⟨λd ed=>?_,λhl=>by rw[vI,List.length_range]at hl;exact hl⟩;rw[vB]at ed;obtain⟨k,ek,ed⟩:=oY ed;have hk:=vV ek;obtain⟨gi,hk⟩:=hk;rw[List.length_range]at gi;rw[List.getElem_range]at hk;subst hk;subst ed;refine⟨gi,λx H' hy=>?_⟩;obtain⟨rfl,rfl⟩:=hy;exact⟨B,.refl s,.int _⟩
@[simp] def dc (f:FE):FA:=λρ=>match f ρ with
 |some (.int j,_)=>if -1000<=j/\j<=1000 then some (cG 0 j.toNat)else none
 |_=>none
theorem jA (hm:X.mg "range" = none)(h:JE X a f)(hg:Gl X "range":=by rfl)(hs:starEach [a] X.env=[(false,eval a X.env)]:=by rfl):PI X tg (.Call (.Name "range" p) [a] [] pos) (Gm X.K (dc f)):=by
 refine PI.to (wF hg hm (ag h ah hs) hs) λσ H R q=>?_;obtain⟨B,ρ,ds,sB,r,e',q⟩:=q;unfold dc at e';split at e'
 ·rename_i j b' ef;split at e'
  ·rename_i hj;cases e'
   refine⟨B,ρ,[.int j],sB,r,by simp[ac,ai,ef],λvs H1 N1 x1 i1=>?_⟩;cases i1 with
   |cons i1 i2=>
    cases i1;cases i2
    exact⟨j,rfl,by omega,by omega,q _ H1 N1 x1 λ_=>qQ 0 j.toNat⟩
  ·cases e'
 ·cases e'
theorem ie (hm:X.mg "range" = none)(h:JE X a f)(hg:Gl X "range":=by rfl)(hs:starEach [a] X.env=[(false,eval a X.env)]:=by rfl):JI X tg (.Call (.Name "range" p) [a] [] pos) (dc f) :=
 PI.to (jA hm h hg hs) λσ H R ⟨B,ρ,ds,sB,r,e',q⟩=>⟨B,ρ,ds,sB,r,e',λJ H' N x h=>q J H' N x (h _)⟩
end
section
variable {X:Cx}{a b e:Expr}{pos:Pos}{x:Str}{p:Pos}
theorem BX:ym X "int.bit_length" (λx xs H Q=>∃i,x=.int i/\xs=[]/\Q (.int (Builtin.Int.intBits i)) H):=by
 intro aa s σ H x xs v us Q I rx rs h;obtain⟨i,rfl,rfl,q⟩:=h;obtain⟨t,rfl⟩:=rx;cases rs
 exact call_int_bit_length ⟨.int _,H,I.tok _,⟨_,rfl⟩,q⟩
theorem BY (ho:JE X a f)(gD:attributeBase a "bit_length" X.env (eval a X.env)=eval a X.env:=by rfl)(gE:(dq.endLine == ce.line)=true:=by rfl):JE X (.Call (.Attribute a "bit_length" dq) [] [] ce) (f1 vh f):=by
 refine PE.to (EA (T:="int") PySem.F.plainAttrs_int PySem.F.slot_int_bit_length PySem.F.type_int_bit_length BX ho gD gE) λσ H Q q=>?_;obtain⟨B,ρ,d,b,sB,r,e',q⟩:=q;obtain⟨x,ex,e'⟩:=oX e';refine⟨B,ρ,x.1,x.2,sB,r,ex,λv H1 N1 x1 i1 _=>?_⟩;obtain⟨xd,xb⟩:=x;cases i1<;>try (simp[vh]at e';done)
 simp only[vh]at e';cases e'
 exact⟨rfl,_,rfl,rfl,(q.into x1).one x1.nh (.int _)⟩
end
def dw (K:Frag)(x:Str)(st:Stmt):Prop:=∃(f:Addr)(fd:FuncData),FL K x x st f fd/\nsIn K mainGlobals x=some (some (.ref f))
theorem def_mk {K:Frag}{x:Str}{st:Stmt}{f:Addr}{oc:Value}{od an:Option Addr}{ni:Array (Option Value)}{kV doc pm de ct:Value}(a:nsIn K mainGlobals x=some (some (.ref f)))
  (l:K.lookup f=some ⟨oc,od,.func (fnOf x x (dX st) (bU st) (aB st) .none kV doc pm an de ct),ni⟩) (c:PySem.W.codeIn K de x=true) (k:PySem.W.keepIn K (.ref f)=true):dw K x st:=⟨f,_,EB l c k,a⟩
section
variable {P:Program}{w:World}{K:Frag}{mg:Str->Option Value}{base:Heap}
theorem dw.fn {x:Str}{st:Stmt}{N ps:List Str}{k:Nat}{g:FS}{h:Heap}(F:dw K x st)(X:K.In h)(G:h.Ns mainGlobals mg)(S:FnScope N ps (aB st))
  (CV:∀(kV doc pm:Value)(an:Option Addr)(de ct:Value)(us:List Value),us.length=ps.length->bindArgs (fnOf x x (dX st) (bU st) (aB st) .none kV doc pm an de ct) ⟨us,[]⟩=pure (ps.zip us))
  (hb:∀(f:Addr)(de:Value)(A:Around)(outer:List PySem.Env)(s:Shared)(H:Hp)(E:XK),eJ k (A.deeper (envOfC x (aB st) s.heap.objs.size f de))->pA (lh sM P w K mg base N x (aB st) f de A outer s H E).nox (bU st) g):
  Fn P w K mg base (k+1) x (aI g ps.length (N.length - ps.length)):=by
 obtain⟨f,fd,F1,a⟩:=F;exact⟨f,fd,ps,HD F1 S (hb f),mg_of X G a,F1.kp,F1.binds CV⟩
end
def HG (H:Hp):Prop:=∀b,H b=none∨(∃o xs,H b=some (.frz o (.lst xs)))∨∃q,H b=some (.tbl q)
noncomputable def lZ (hZ:List (Addr×Str))(G:Hp):Hp:=λb=>match hZ.lookup b with|some q=>some (.tbl q)|none=>G b
theorem e8 (e:hZ.lookup b=some q):lZ hZ G b=some (.tbl q):=by unfold lZ;rw[e]
theorem gp (e:hZ.lookup b=none):lZ hZ G b=G b:=by unfold lZ;rw[e]
theorem wZ {P:Program}{w:World}{K:Frag}{mg mb:Str->Option Value}{k:Nat}{fa a:Addr}{fd:FuncData}{x:Str}{sp:Sp}{s₁:Shared}{vs:List Value}{ns:List Int}(hZ:List (Addr×Str))
  (ht:∀b q,hZ.lookup b=some q->s₁.heap.get? b=some (PySem.W.tabObj #[])/\isCodeTable s₁.heap b) (OF:PySem.W.noTabs K=true)
  (KX:K.In s₁.heap) (IU:s₁.heap.Ns mainGlobals mg) (hb:s₁.heap.Ns builtinsNs mb) (OG:∀x:Str,x ≠ "__name__"->mb x=bootBuiltins x) (Ll:s₁.heap.NoLimit)
  (Lm:∃bm ob,mg "__builtins__" = some (.ref bm)/\bm≠builtinsNs/\s₁.heap.get? bm=some ob/\ob.cls=.type "module"/\ob.dict=some builtinsNs/\ob.data=.plain) (hg:s₁.gens=#[])
  (ha:s₁.heap.get? a=some { cls:=.type "list",data:=.seq vs.toArray }) (hi:IntsAre vs ns) (hl:ns.length<=sizeLine) (hr:eJ k callerA)
  (F:∀base:Heap,K.In base->base.Ns mainGlobals mg->ke P w K mg base sM k fa fd [x] sp) (IV:∀(s:Shared)(u:Value),BindsTo s fd ⟨[u],[]⟩ [(x,u)])
  (Gy:∀H:Hp,(∀b q,hZ.lookup b=some q->H b=some (.tbl q))->fU K H a (ns.map V.int)->sp [.ref a] H (λv _=>v=.bl true) λ_ _ _=>False):
  codeAny (model P w) callerA (.call (.ref fa) ⟨[.ref a],[]⟩) (λr s'=>r=.ok (.ret (.bool true))/\OldK s₁.heap s'.heap/\s'.os=s₁.os/\AllBare s'.gens) s₁:=by
 have rv:=L2.nQ hi;have Ln:=hi.length;have IW:∀H:Hp,HG H->(∀b q,hZ.lookup b=some q->H b=some (.tbl q))->fU K H a (ns.map V.int)->j4 P w H s₁.heap->(∀b q,H b=some (.tbl q)->s₁.heap.get? b=some (PySem.W.tabObj #[])/\isCodeTable s₁.heap b) ->
   (∀b o u,H b=some (.frz o u)->b=a)->(∀b o u,H b=some (.frz o u)->K.lookup b=none) ->
   codeAny (model P w) callerA (.call (.ref fa) ⟨[.ref a],[]⟩) (λr s'=>r=.ok (.ret (.bool true))/\OldK s₁.heap s'.heap/\s'.os=s₁.os/\AllBare s'.gens) s₁:=by
  intro H hO hT hS hok hA hB hK;have IA:∀ {b:Addr}{o:Obj},s₁.heap.get? b=some o->(o.cls≠.none)->(o.cls≠.type "list")->H b=none:=λ{b o} e d d'=>by
   rcases hO b with q|⟨ob,xs,q⟩|⟨u,q⟩
   ·exact q
   ·have e':b=a:=hB b _ _ q;subst e';rw[ha]at e;cases e;exact absurd rfl d'
   ·rw[(hA b u q).1]at e;cases e;exact absurd rfl d
  have OH:∀ {b:Addr}{o:Obj}{es:Array DictEntry}{ep:Nat},s₁.heap.get? b=some o->o.data=.dict es ep->H b=none:=λ{b o es ep} e d=>by
   rcases hO b with q|⟨ob,xs,q⟩|⟨u,q⟩
   ·exact q
   ·have e':b=a:=hB b _ _ q;subst e';rw[ha]at e;cases e;cases d
   ·rw[(hA b u q).1]at e;cases e;cases d
  have JB:∀ {b:Addr}{m:Str->Option Value},s₁.heap.Ns b m->(q0 s₁.heap H).Ns b m:=λ{b m} ⟨o,es,ep,e,d,r⟩=>⟨o,es,ep,lE e (OH e d),d,r⟩;have MK:K.In (q0 s₁.heap H):=λb o e=>lE (KX b o e) (by
   rcases hO b with q|⟨ob,xs,q⟩|⟨u,q⟩
   ·exact q
   ·rw[hK b _ _ q]at e;cases e
   ·have z:=(hA b u q).1;rw[KX b o e]at z;cases z
    have:=uR OF _ (PySem.W.mem_of_lookupK e);simp at this)
  have hM:Mod K mg (q0 s₁.heap H):=⟨MK,JB IU,⟨mb,JB hb,OG⟩,let ⟨mc,h1,h2⟩:=Ll;⟨mc,JB h1,h2⟩,by
   obtain⟨bm,ob,b1,b2,b3,b4,b5⟩:=Lm;exact⟨bm,ob,b1,b2,lE b3 (IA b3 (by rw[b4];exact λz=>nomatch z) (by rw[b4];intro z;injection z with z;exact absurd z (by decide))),b4,b5⟩⟩
  have e0:Env0 P w K mg (q0 s₁.heap H) callerA [] s₁ H:=⟨rfl,hM,λb o e=>Bb e,Nat.le_of_eq (wB _ _),trivial,λb hb=>absurd (show b∈([]:List Addr)from hb) (by simp),hok,.of_eq hg⟩;refine codeAny_mono ((F _ MK (JB IU)).run callerA [] s₁ H ⟨[.ref a],[]⟩ [.ref a] [.ref a] _ _ hr e0 (IV s₁ (.ref a)) (.cons rfl .nil) (Gy H hT hS)) λr s' h=>?_;cases r with
  |error e=>exact False.elim h
  |ok fl=>
   cases fl with
   |next=>exact False.elim h
   |brk=>exact False.elim h
   |cont=>exact False.elim h
   |ret u=>
    obtain⟨v,H',os,bare,un,IX,r',q⟩:=h;have q':v=.bl true:=q;subst q';obtain rfl:u=Value.bool true:=r';have kp:∀b o,H b=none->s₁.heap.get? b=some o->s'.heap.get? b=some o:=λb o n e=>un.keep b o e n (by intro z;exact absurd (show b∈([]:List Addr)from z) (by simp)) (by simp);refine⟨rfl,⟨λb o e=>?_,λb o e=>un.there b o e (by simp)⟩,os,bare⟩;rcases hO b with z|⟨ob,xs,z⟩|⟨u,z⟩
    ·exact .inl (kp b o z e)
    ·have z2:=un.frzs b ob _ z;obtain⟨e1,_⟩:=hok b _ z;obtain⟨e2,_⟩:=IX b _ z2;rw[e]at e1;cases e1;exact .inl e2
    ·obtain⟨e1,e2⟩:=hA b u z;rw[e]at e1;cases e1;obtain⟨ps,e3,_⟩:=IX b _ (un.tbls b u z);exact .inr (.inl ⟨e2,rfl,#[],ps,rfl,by simpa using e3⟩)
 have FQ:∀q,hZ.lookup a≠some q:=λq z=>by
  have:=(ht a q z).1;rw[ha]at this;cases this
 have ta:hZ.lookup a=none:=by
  cases z:hZ.lookup a with
  |none=>rfl
  |some q=>exact absurd z (FQ q)
 have DM:∀(G:Hp) b q,hZ.lookup b=some q->br P w (lZ hZ G) s₁.heap b (.tbl q):=λG b q z=>⟨#[],(ht b q z).1,trivial,λpos cv c=>by cases c⟩;cases hk:K.lookup a with
 |some o=>
  have e:=KX a o hk;rw[ha]at e;cases e
  refine IW (lZ hZ λ_=>none) (λb=>?_) (λb q z=>e8 z) (.inr ⟨_,vs.toArray,_,hk,rfl,rfl,rfl,by rw[vH,Ln];exact hl,by simpa using rv⟩) (λb u z=>?_) (λb q z=>?_) (λb o u z=>?_) λb o u z=>?_
  all_goals cases zt:hZ.lookup b with
   |none=>first|exact .inl (gp zt)|(rw[gp zt]at z;cases z)
   |some q'=>first|exact .inr (.inr ⟨q',e8 zt⟩)|(rw[e8 zt]at z;cases z;done)|(rw[e8 zt]at z;cases z;first|exact DM _ b _ zt|exact ht b _ zt)
 |none=>
  refine IW (lZ hZ λb=>if b=a then some (.frz { cls:=.type "list",data:=.seq vs.toArray } (.lst (ns.map V.int)))else none) (λb=>?_) (λb q z=>e8 z) (.inl (.inr ⟨{ cls:=.type "list",data:=.seq vs.toArray },by rw[gp ta,if_pos rfl]⟩)) (λb u z=>?_) (λb q z=>?_) (λb o u z=>?_) λb o u z=>?_
  all_goals cases zt:hZ.lookup b with
   |some q'=>first|exact .inr (.inr ⟨q',e8 zt⟩)|(rw[e8 zt]at z;cases z;done)|(rw[e8 zt]at z;cases z;first|exact DM _ b _ zt|exact ht b _ zt)
   |none=>
    first
    |rw[gp zt]at z
    |rw[gp zt]
    by_cases hb:b=a
    ·first
     |rw[if_pos hb]at z
     |rw[if_pos hb]
     first
     |exact .inr (.inl ⟨_,_,rfl⟩)
     | (cases z;subst hb;exact⟨ha,by rw[vI];exact hl,vs,_,rv,ha⟩)
     |exact hb
     | (rw[hb];exact hk)
     |cases z
    ·first
     | (rw[if_neg hb]at z;cases z)
     |exact .inl (if_neg hb)
noncomputable def pI (L:List (Str×Option (Addr×Addr))):List (Addr×Str):=L.filterMap λp=>p.2.map λq=>(q.2,EH p.1)
structure lD (K:Frag)(L:List (Str×Option (Addr×Addr))):Prop where
 names:L=qD.map λx=>(x,PySem.W.tabIn K x)
 apart:((pI L).map (·.1)).Nodup
 none:PySem.W.noTabs K=true
theorem iX {α β:Type}[BEq α][LawfulBEq α]:∀ {l:List (α×β)}{a:α}{b:β},(l.map (·.1)).Nodup->(a,b)∈l->l.lookup a=some b
 | (c,d)::l,a,b,nd,h=>by
  rw[List.lookup_cons];rcases vP h with e|h
  ·cases e;simp
  ·have ne:a≠c:=λz=>(List.nodup_cons.mp nd).1 (by rw[←z];exact List.mem_map.mpr ⟨(a,b),h,rfl⟩);rw[show(a == c)=false by simpa using ne];exact iX (List.nodup_cons.mp nd).2 h
theorem ig {α β:Type}[BEq α][LawfulBEq α]:∀ {l:List (α×β)}{a:α}{b:β},l.lookup a=some b->(a,b)∈l
 | (c,d)::l,a,b,h=>by
  rw[List.lookup_cons]at h;cases e:a == c with
  |true=>rw[e]at h;cases h;rw[eq_of_beq e];exact mX
  |false=>rw[e]at h;exact mZ _ (ig h)
theorem lD.tb {K:Frag}{L:List (Str×Option (Addr×Addr))}(F:lD K L){H:Hp}(h:∀b q,(pI L).lookup b=some q->H b=some (.tbl q)):Tb K H:=λx hx c P e=>by
 refine h P (EH x) (iX F.apart ?_);rw[F.names];exact List.mem_filterMap.mpr ⟨(x,PySem.W.tabIn K x),List.mem_map.mpr ⟨x,hx,rfl⟩,by rw[e];rfl⟩
theorem tab_no {K:Frag}{x:Str}(e:nsIn K mainGlobals x=some none):PySem.W.tabIn K x=none:=by unfold PySem.W.tabIn;rw[e]
theorem tabs_fit {K:Frag}{t0 t1 t2 t3 t4:Option (Addr×Addr)}(h0:PySem.W.tabIn K "in_order" = t0)(h1:PySem.W.tabIn K "has_seal" = t1)(h2:PySem.W.tabIn K "is_first_death" = t2)(h3:PySem.W.tabIn K "bases_by" = t3)(h4:PySem.W.tabIn K "as_heard" = t4)
  (ap:((pI [("in_order",t0),("has_seal",t1),("is_first_death",t2),("bases_by",t3),("as_heard",t4)]).map (·.1)).Nodup) (nt:PySem.W.noTabs K=true):lD K [("in_order",t0),("has_seal",t1),("is_first_death",t2),("bases_by",t3),("as_heard",t4)] :=
 ⟨by subst h0;subst h1;subst h2;subst h3;subst h4;rfl,ap,nt⟩
theorem dw.law {P:Program}{w:World}{K:Frag}{mg:Str->Option Value}{x y:Str}{st:Stmt}{N:List Str}{k:Nat}{g:FS}{h:Heap}{fa:Addr}(F:dw K x st)(X:K.In h)(G:h.Ns mainGlobals mg)(Lo:mg x=some (.ref fa))(S:FnScope N [y] (aB st))
  (CV:∀(kV doc pm:Value)(an:Option Addr)(de ct:Value)(u:Value),bindArgs (fnOf x x (dX st) (bU st) (aB st) .none kV doc pm an de ct) ⟨[u],[]⟩=pure [(y,u)])
  (hb:∀(base:Heap),K.In base->base.Ns mainGlobals mg->∀(f:Addr)(de:Value)(A:Around)(outer:List PySem.Env)(s:Shared)(H:Hp)(E:XK),eJ k (A.deeper (envOfC x (aB st) s.heap.objs.size f de))->pA (lh sM P w K mg base N x (aB st) f de A outer s H E).nox (bU st) g):
  ∃fd:FuncData,(∀(s:Shared)(u:Value),BindsTo s fd ⟨[u],[]⟩ [(y,u)])/\∀base:Heap,K.In base->base.Ns mainGlobals mg->ke P w K mg base sM (k+1) fa fd [y] (BR K (aI g 1 (N.length - 1))):=by
 obtain⟨f,fd,F1,a⟩:=F;have e:=Lo.symm.trans (mg_of X G a);cases e
 refine⟨fd,λs u=>?_,λbase kb nb=>HD F1 S (hb base kb nb _)⟩;obtain⟨oc,od,kV,doc,pm,an,de,ct,ni,rfl,lk,lB⟩:=F1.ex;exact .of_eq (CV kV doc pm an de ct u)
section
variable {X:Cx}{a b e:Expr}{pos:Pos}{x:Str}{p:Pos}
@[simp] noncomputable def BZ:D->D->OB
 |.lst xs,.lst ys=>if xs.length+ys.length<=sizeLine then some (.lst (xs++ys),true)else none
 |_,_=>none
theorem EU:c6 X (binaryOp .Add) (rD X.K BZ):=by
 intro aa s σ H x y v u Q I rx ry q;obtain⟨B,dx,dy,d,bb,sB,ix,iy,ee,q⟩:=q;cases ix<;>try (cases ee;done)
 all_goals (cases iy<;>try (cases ee;done))
 rename_i l vs ds h hl l' ws es h' AW;simp only[BZ]at ee;split at ee
 ·rename_i hz;cases ee
  cases rx
  cases ry
  obtain⟨its,r1,p1,z1⟩:=I.list (sB.seq h);obtain⟨nH,r2,p2,z2⟩:=I.list (sB.seq h');obtain⟨⟨c1,d1,t1,s1⟩,o1,e1,n1,k1⟩:=p1.isList;obtain⟨⟨c2,d2,t2,s2⟩,o2,e2,n2,k2⟩:=p2.isList;dsimp only at e1 k1 e2 k2;subst e1;subst k1;subst e2;subst k2;have hsz:its.toArray.size+nH.toArray.size<=sizeLine:=by
   rw[vH,vH,←r1.length,←r2.length,hl.length,AW.length];exact hz
  have ea:its.toArray++nH.toArray=(its++nH).toArray:=by simp
  refine concat_meets ⟨_,o1,rfl⟩ ⟨_,o2,rfl⟩ noFill_list_add seq_list_add PySem.F.slot_list_add PySem.F.entry_list_add (PySem.F.args_list_add_2 _ _) (list_addW l l' its.toArray nH.toArray n1 n2 d1 d2 s1 s2 hsz) ⟨o1,o2,?_⟩;rw[ea];have xt:=Ext.laid (o:=.lst (vs++ws)) sB I.fresh;have il:=(hl.append AW).mono xt.bn;exact⟨.ref s.heap.objs.size,_,I.lnew (t':=s.toks) (r1.append r2) (by rw[vA,hl.length,AW.length];exact hz),rfl,q _ _ _ xt (.lst (fU.of ay) il) λ_=>⟨_,_,_,rfl,rfl,I.fresh,ay,il⟩⟩
 ·cases ee
@[simp] noncomputable def Ca:D->D->OB
 |.tup xs,.tup ys=>if xs.length+ys.length<=sizeLine/\xs.isEmpty=false then some (.tup (xs++ys),false)else none
 |_,_=>none
theorem EV:c6 X (binaryOp .Add) (rD X.K Ca):=by
 refine ia Bw λx y H Q q=>?_;obtain⟨B,dx,dy,d,bb,sB,ix,iy,ee,q⟩:=q;cases ix<;>try (cases ee;done)
 all_goals (cases iy<;>try (cases ee;done))
 rename_i l vs ds h hl l' ws es h' AW;simp only[Ca]at ee;split at ee
 ·rename_i hz;cases ee
  have l1:=hl.length;have l2:=AW.length;refine⟨l,l',vs,ws,rfl,rfl,aQ sB h,aQ sB h',λz=>?_,by omega,λz=>?_,λ_ pp hp=>?_⟩
  ·subst z;cases hl
   simp at hz
  ·subst z;cases AW
   rw[uQ]at q;exact q.one sB (.tup h hl)
  ·have xt:=Ext.laid (o:=.tup (vs++ws)) sB hp;exact q _ _ _ xt (.tup (gh.of ay) ((hl.append AW).mono xt.bn)) (by simp)
 ·cases ee
@[simp] noncomputable def zg:D->D->OB
 |.bl i,.int j=>some (.int ((if i=true then 1 else 0)+j),false)
 |.int i,.bl j=>some (.int (i+b2i j),false)
 |_,_=>none
theorem EW:c6 X (binaryOp .Add) (rD X.K zg):=by
 intro aa s σ H x y v u Q I rx ry q;obtain⟨B,dx,dy,d,bb,sB,ix,iy,ee,q⟩:=q;cases ix<;>try (cases ee;done)
 all_goals (cases iy<;>try (cases ee;done))
 ·simp only[zg]at ee;cases ee
  cases rx
  obtain⟨t,rfl⟩:=ry;exact IntBool.add_bool_int ⟨.int _,H,I.tok _,⟨_,rfl⟩,q.one sB (.int _)⟩
 ·simp only[zg]at ee;cases ee
  exact wI aa s σ H _ _ v u Q I rx ry ⟨_,_,rfl,rfl,q.one sB (.int _)⟩
@[simp] noncomputable def bp:D->D->OB
 |.int i,.int j=>some (.int (i+j),false)
 |.str i,.str j=>if i.length+j.length<=sizeLine then some (.str (i++j),false)else none
 |.lst xs,.lst ys=>if xs.length+ys.length<=sizeLine then some (.lst (xs++ys),true)else none
 |.tup xs,.tup ys=>if xs.length+ys.length<=sizeLine/\xs.isEmpty=false then some (.tup (xs++ys),false)else none
 |.bl i,.int j=>some (.int ((if i=true then 1 else 0)+j),false)
 |.int i,.bl j=>some (.int (i+b2i j),false)
 |_,_=>none
theorem be:c6 X (binaryOp .Add) (rD X.K bp):=by
 refine ia (r:=rD X.K (AO uT (AO BZ (AO Ca zg)))) (lX BS (lX EU (lX EV EW))) λx y H Q q=>?_;obtain⟨B,dx,dy,d,bb,sB,ix,iy,ee,q⟩:=q;refine⟨B,dx,dy,d,bb,sB,ix,iy,?_,q⟩;cases dx<;>try (cases ee;done)
 all_goals (cases dy<;>try (cases ee;done))
 all_goals (simp[bp]at ee;simp[AO,uT,BZ,Ca,zg,ee])
@[simp] noncomputable def Kz:D->Option Bool
 |.bl b=>some b
 |_=>none
def t6:List D->Option (List Bool)
 |[]=>some []
 |d::ds=>(Kz d).bind λb=>(t6 ds).map (b :: ·)
@[simp] theorem HH:t6 []=some []:=rfl
@[simp] theorem xa (d:D)(ds:List D):t6 (d::ds)=(Kz d).bind λb=>(t6 ds).map (b :: ·):=rfl
theorem vj {K:Frag}{B:Hp}:∀ {vs:List V}{ds:List D}{bs:List Bool}{its:List Value},L2.aP vs its->IsL K B vs ds->t6 ds=some bs->its=bs.map Value.bool
 |_,_,_,_,.nil,.nil,e=>by cases e;rfl
 |_,_,_,_,.cons r rr,.cons i ii,e=>by
  rw[xa]at e;obtain⟨b,e1,e⟩:=oX e;obtain⟨bs,e2,e⟩:=oY e;subst e;cases i<;>simp only[Kz]at e1<;>try (cases e1;done)
  cases e1
  cases r
  rw[vj rr ii e2];rfl
@[simp] def kz:List D->OB
 |[.lst ds]=>(t6 ds).map λbs=>(.bl (bs.all id),false)
 |_=>none
theorem nY (hc:X.calm=true:=by rfl):bG X (.builtin "all") (yn X.K kz):=by
 intro aa s σ H xs us Q I rs q;obtain⟨B,ds,d,bb,sB,i,ee,q⟩:=q;match ds,i,ee with
 |[.lst es],.cons i1 .nil,ee=>
  obtain⟨bs,eb,ee⟩:=oY ee;cases ee
  obtain⟨u1,rfl,r1⟩:=gX rs;cases i1 with
  |@lst l vs _ h hl=>
   cases r1
   obtain⟨its,rv,p1,z1⟩:=I.list (sB.seq h);have ei:=vj rv hl eb;have gi:l<s.heap.objs.size:=by obtain⟨_,e0,_⟩:=p1.isList;exact vX e0
   refine call_all_walk (wpAny_pyIter_list p1.isList ⟨_,_,_,_,_,_,λj=>(bs[j]?).getD true,rfl,Walks.list (A:=X.A.in1) (I.ok.hd hc) s.heap.objs.size l (vS gi) its.toArray,⟨⟨_,vY _ rfl,rfl,rfl⟩,p1.isList.push _⟩,λj v s' Q' E' hP hQ=>?_,λh' tk hk=>?_⟩)
   ·have ML:its[j]? = some v:=by simpa using hP
    rw[ei,vB]at ML;obtain⟨c,e1,e2⟩:=oY ML;subst e2;dsimp only at hQ;rw[e1]at hQ;exact wpAny_truthy_bool hQ
   ·have ea:((List.range its.toArray.size).all λj=>(bs[j]?).getD true)=bs.all id:=by
     rw[vH,ei,vI];exact LSm.range_all bs
    rw[ea];refine⟨.bl _,H,I.kept λc o e0=>?_,rfl,q.one sB (.bl _)⟩;exact hk c o (λhm=>by rw[uU hm]at e0;exact Nat.lt_irrefl _ (vX e0)) (vZ _ e0)
end
noncomputable def Jv (z:Str):It:=⟨λi _=>i<z.cps.size,λi H v H'=>H'=H/\∃c,z.cps[i]? = some c/\v=.str ⟨#[c]⟩,λi _=>z.cps.size<=i⟩
theorem qR {P:Program}{w:World}{K:Frag}{tg:Expr}(z:Str)(t:Tok)(it:Addr):Turn P w K tg (Jv z) [it] it (λi h=>h.IsStrIter it "str_ascii_iterator" z t i) where
 mem:=List.mem_singleton.mpr rfl
 obj:=λi h st b hb=>by
  have eb:=uU hb;subst eb;obtain⟨o,e1,_,d1⟩:=st;exact⟨o,e1,λv zz=>by rw[d1]at zz;cases zz⟩
 keep:=λi h h' st k=>let ⟨o,e1,r⟩:=st;⟨o,k it (List.mem_singleton.mpr rfl) o e1,r⟩
 item:=by
  intro X hP hw hK hc i aa s σ H E I hf st hg;subst hP hw hK;have AX:i<z.cps.size:=hg;obtain⟨f0,f1,f2,f3,f4,f5⟩:=hf it (List.mem_singleton.mpr rfl);refine wpAny_pyNext_ascii_item st (c:=z.cps[i]) (by simp[AX]) λh' mR sb=>?_;obtain⟨o,e1,c1,d1⟩:=id mR;exact⟨_,rfl,nK (s:={ s with heap:=h',toks:=s.toks+1 }) e1 c1 d1 (by decide) ⟨.str ⟨#[z.cps[i]]⟩,H,I.turned (λb o hb e2=>(sb.2 b hb).trans e2) f0 f1 f3 f4 f5,⟨_,rfl⟩,⟨rfl,_,by simp[AX],rfl⟩,mR,λb hb=>(hf b hb).1⟩⟩
 done:=by
  intro X hP hw hK hc i aa s σ H E I hf st hg;subst hP hw hK;have AX:z.cps.size<=i:=hg;obtain⟨f0,f1,f2,f3,f4,f5⟩:=hf it (List.mem_singleton.mpr rfl);exact wpAny_pyNext_ascii_end (I.ok.hd hc) st (by simp;omega) λh' eb=>⟨rfl,I.turned (t':=s.toks) (λb o hb e2=>eb b o hb e2) f0 f1 f3 f4 f5⟩
 self:=λ_ _ _ _ _ st h=>wpAny_pyIter_striter_ascii st h
theorem qS {P:Program}{w:World}{K:Frag}{tg:Expr}(z:Str)(t:Tok)(it:Addr):Turn P w K tg (Jv z) [it] it (λi h=>h.IsStrIter it "str_iterator" z t i) where
 mem:=List.mem_singleton.mpr rfl
 obj:=λi h st b hb=>by
  have eb:=uU hb;subst eb;obtain⟨o,e1,_,d1⟩:=st;exact⟨o,e1,λv zz=>by rw[d1]at zz;cases zz⟩
 keep:=λi h h' st k=>let ⟨o,e1,r⟩:=st;⟨o,k it (List.mem_singleton.mpr rfl) o e1,r⟩
 item:=by
  intro X hP hw hK hc i aa s σ H E I hf st hg;subst hP hw hK;have AX:i<z.cps.size:=hg;obtain⟨f0,f1,f2,f3,f4,f5⟩:=hf it (List.mem_singleton.mpr rfl);refine wpAny_pyNext_wide_item st (c:=z.cps[i]) (by simp[AX]) λh' mR sb=>?_;obtain⟨o,e1,c1,d1⟩:=id mR;exact⟨_,rfl,nK (s:={ s with heap:=h',toks:=s.toks+1 }) e1 c1 d1 (by decide) ⟨.str ⟨#[z.cps[i]]⟩,H,I.turned (λb o hb e2=>(sb.2 b hb).trans e2) f0 f1 f3 f4 f5,⟨_,rfl⟩,⟨rfl,_,by simp[AX],rfl⟩,mR,λb hb=>(hf b hb).1⟩⟩
 done:=by
  intro X hP hw hK hc i aa s σ H E I hf st hg;subst hP hw hK;have AX:z.cps.size<=i:=hg;obtain⟨f0,f1,f2,f3,f4,f5⟩:=hf it (List.mem_singleton.mpr rfl);exact wpAny_pyNext_wide_end (I.ok.hd hc) st (by simp;omega) λh' eb=>⟨rfl,I.turned (t':=s.toks) (λb o hb e2=>eb b o hb e2) f0 f1 f3 f4 f5⟩
 self:=λ_ _ _ _ _ st h=>wpAny_pyIter_striter_wide st h
section
variable {X:Cx}{a b e:Expr}{pos:Pos}{x:Str}{p:Pos}{tg:Expr}
theorem zh {l:Expr}{tl:TE}(hl:PE X l tl):PI X tg l (λσ H R=>tl σ H λx H1=>∃z,x=.str z/\R (Jv z) H1):=by
 intro aa s σ H R I h;refine bJ (hl aa s σ H _ I h) λv s1 ⟨x,H1,I1,r1,q1⟩=>?_;obtain⟨z,rfl,q⟩:=q1;obtain⟨t,rfl⟩:=r1;have fp:∀b∈[s1.heap.objs.size],j5 X aa H1 b:=λb hb=>by
  rw[uU hb];exact I1.fpOk (vT _) (I1.hok.fresh (vT _))
 cases ha:z.cps.all (· < 128) with
 |true=>exact wpAny_pyIter_ascii ha ⟨_,[s1.heap.objs.size],_,_,H1,rfl,I1.kept (t':=s1.toks) λb o e=>vZ _ e,qR z t _,⟨_,vY _ rfl,rfl,rfl⟩,fp,q⟩
 |false=>exact wpAny_pyIter_wide ha ⟨_,[s1.heap.objs.size],_,_,H1,rfl,I1.kept (t':=s1.toks) λb o e=>vZ _ e,qS z t _,⟨_,vY _ rfl,rfl,rfl⟩,fp,q⟩
noncomputable def gq (z:Str):List D:=z.cps.toList.map λc=>.str ⟨#[c]⟩
theorem zi {K:Frag}{B:Hp}(z:Str):lj K (Jv z) B (gq z):=by
 intro i H s;refine⟨λd ed=>?_,λhl=>by unfold gq at hl;show z.cps.size<=i;simpa using hl⟩;unfold gq at ed;rw[vB]at ed;obtain⟨c,ec,rfl⟩:=oY ed;have IY:z.cps[i]? = some c:=by simpa using ec
 refine⟨(Array.getElem?_eq_some_iff.mp IY).1,λv H' hy=>?_⟩;obtain⟨rfl,c',e1,rfl⟩:=hy;rw[IY]at e1;cases e1;exact⟨B,.refl s,.str _⟩
@[simp] def EX:D->Option (List D)
 |.lst ds=>some ds
 |.tup ds=>some ds
 |.str z=>some (gq z)
 |_=>none
@[simp] def cn (f:FE):FA:=λρ=>(f ρ).bind λx=>EX x.1
theorem cr (h:JE X e f):JI X tg e (cn f):=by
 intro aa s σ H R I q;obtain⟨B,ρ,ds,sB,r,e',q⟩:=q;obtain⟨xx,ex,es⟩:=oX e';obtain⟨xd,xb⟩:=xx;cases xd with
 |lst l=>exact vi h aa s σ H R I ⟨B,ρ,ds,sB,r,by unfold zf;rw[ex];exact es,q⟩
 |tup l=>exact vi h aa s σ H R I ⟨B,ρ,ds,sB,r,by unfold zf;rw[ex];exact es,q⟩
 |str z=>
  cases es
  refine zh h aa s σ H R I ⟨B,ρ,_,_,sB,r,ex,λv H1 N1 x1 i1 _=>?_⟩;cases i1
  exact⟨z,rfl,q _ H1 N1 x1 (zi z)⟩
 |_=>cases es
theorem Cb:yk X (λx lo hi H Q=>∃z,x=.str z/\z.length<=sizeLine/\Q (.str (Txt.slice z lo hi)) H):=by
 intro aa s σ H x v vl vu lo hi sl Q I rx hs pl pu h;obtain⟨z,rfl,hz,q⟩:=h;obtain⟨t,rfl⟩:=rx;have hW:∀lo hi,Q (.str (Txt.slice z lo hi)) H->(Txt.slice z lo hi).length<=sizeLine/\∀t' k,EP X aa σ Q (.str (Txt.slice z lo hi) t') { s with toks:=k }:=λlo hi q=>
  ⟨vR (Txt.slice_le z _ _) hz,λt' k=>⟨.str _,H,I.tok k,⟨t',rfl⟩,q⟩⟩
 refine⟨"str",_,PySem.F.slot_str_getitem.lookup,typeIs_str _ _ _,?_⟩;cases pl with
 |none=>
  cases pu with
  |none=>exact wpAny_getItem_str_slice (l:=none) (u:=none) (st:=none) hs rfl (post_val_or_str (hW _ _ q))
  |int j tj=>exact wpAny_getItem_str_slice (l:=none) (u:=some (j,tj)) (st:=none) hs rfl (post_val_or_str (hW _ _ q))
 |int i ti=>
  cases pu with
  |none=>exact wpAny_getItem_str_slice (l:=some (i,ti)) (u:=none) (st:=none) hs rfl (post_val_or_str (hW _ _ q))
  |int j tj=>exact wpAny_getItem_str_slice (l:=some (i,ti)) (u:=some (j,tj)) (st:=none) hs rfl (post_val_or_str (hW _ _ q))
theorem xc {A:Around}{E:Value->Shared->Prop}{s:Shared}{prog:Program}{w:World}{t sl:Addr}{au:Array Value}{vl vu:Value}{lo hi:Option Int}{Q:Value->Shared->Prop}(ht:IsTup s.heap t au)(hs:s.heap.IsSliceOf sl vl vu .none)(pl:IsPart vl lo)(pu:IsPart vu hi)
  (h0:HT.cM au.size 0 lo=0) (h1:HT.cM au.size au.size hi=au.size) (h:Q (.ref t) s):wpAny (model prog w) A (getItem (.ref t) (.ref sl)) Q E s:=by
 obtain⟨os,CQ,J4,FJ⟩:=id hs
 have hT:s.TypeIs (.ref sl) "slice":=⟨os,CQ,J4⟩
 unfold getItem
 try with_reducible refine wpAny_holding ?_
 first|refine wX (wY ?_)|skip
 refine wX (wpAny_sequenceKey ht.typeIs (by decide) ?_)
 refine wX (wpAny_callSpecial?_slot (name:=Str.ofString "__getitem__") ht.typeIs PyProof.Rows.slot_tuple_getitem (wpAny_call_entry PyProof.Rows.slot_tuple_getitem ht.typeIs entry_tuple_getitem ?_ (args_tuple_getitem _ _)))
 show wpAny _ _ (Builtin.Tuple.tupleItemsOf (.ref t)>>=_) _ _ s
 refine wX (tupleItemsOf_ ht ?_)
 refine wX (wpAny_typeOf hT ?_)
 rw[if_pos (by decide)]
 refine wX (HT.gj hs pl pu ?_)
 have OI:(((HT.cM au.size 0 lo:Nat):Int) == 0 && (1:Int) == 1 && (HT.cM au.size au.size hi - HT.cM au.size 0 lo) == au.size)=true:=by
  rw[h0,h1];simp
 show wpAny _ _ (if(((HT.cM au.size 0 lo:Nat):Int) == 0 && (1:Int) == 1 && (HT.cM au.size au.size hi - HT.cM au.size 0 lo) == au.size)=true then _ else _) _ _ s
 rw[if_pos OI]
 refine wX ?_
 unfold Builtin.Tuple.tupleIsExact
 refine wX (wpAny_typeOf ht.typeIs (wY ?_))
 show wpAny _ _ (if((Value.type "tuple") == Value.type "tuple")=true then _ else _) _ _ s
 rw[if_pos (by decide)]
 refine wX (wpAny_rule ?_)
 exact wY ⟨_,rfl,wY h⟩
theorem Cc:yk X (λx lo hi H Q=>∃a xs,x=.ref a/\gh X.K H a xs/\HT.cM xs.length 0 lo=0/\HT.cM xs.length xs.length hi=xs.length/\Q (.ref a) H):=by
 intro aa s σ H x v vl vu lo hi sl Q I rx hs pl pu h;obtain⟨a,xs,rfl,hx,h0,h1,q⟩:=h;cases rx
 obtain⟨its,r,ht,hz⟩:=I.tuple hx;have bD:its.toArray.size=xs.length:=by rw[vH];exact r.length.symm
 refine⟨"tuple",_,PyProof.Rows.slot_tuple_getitem.lookup,ht.typeIs,?_⟩;exact xc ht hs pl pu (by rw[bD];exact h0) (by rw[bD];exact h1) ⟨.ref a,H,I,rfl,q⟩
@[simp] def kA (fa:FE)(fl fh:FO):FE:=λρ=>(fa ρ).bind λx=>(fl ρ).bind λl=>(fh ρ).bind λh=>match x.1 with
 |.lst ds=>some (.lst (iP ds l h),true)
 |.tup ds=>some (.tup (iP ds l h),false)
 |.str z=>if z.length<=sizeLine then some (.str (Txt.slice z l h),false)else none
 |_=>none
theorem t7 {ds:List D}{lo hi:Option Int}(h0:HT.cM ds.length 0 lo=0)(h1:HT.cM ds.length ds.length hi=ds.length):iP ds lo hi=ds:=by
 unfold iP;rw[h0,h1];simp
theorem bO {lo hi:Option Expr}{p2:Pos}{fa:FE}{fl fh:FO}(ha:JE X e fa)(hl:JO X lo fl)(hh:JO X hi fh):JE X (.Subscript e (.Slice lo hi none p2) pos) (kA fa fl fh):=by
 refine PE.to (y8 (yk.or (yk.or B1 E8) (yk.or Cb Cc)) ha hl hh) λσ H Q q=>?_;obtain⟨B,ρ,d,b,sB,r,e,q⟩:=q;obtain⟨x,ex,e⟩:=oX e;obtain⟨l,el,e⟩:=oX e;obtain⟨h,eh,e⟩:=oX e;refine⟨B,ρ,x.1,x.2,sB,r,ex,λv H1 N1 x1 i1 _=>⟨N1,ρ,l,x1.nh,r.mono x1.bn,el,λH2 h2=>⟨N1,ρ,h,x1.nh.trans h2,r.mono x1.bn,eh,λH3 h3=>?_⟩⟩⟩;have s3:aM N1 H3:=x1.nh.trans (h2.trans h3);have q3:=q.into (x1.trans (.grow x1.nh (h2.trans h3)));obtain⟨xd,xb⟩:=x;dsimp only at e i1;cases i1 with
 |@tup a' vs ds hs hv=>
  cases e
  by_cases hw:HT.cM ds.length 0 l=0/\HT.cM ds.length ds.length h=ds.length
  ·rw[t7 hw.1 hw.2]at q3;exact .inr (.inr ⟨a',vs,rfl,aQ s3 hs,by rw[hv.length];exact hw.1,by rw[hv.length];exact hw.2,q3.one s3 (.tup hs hv)⟩)
  ·refine .inl (.inr ⟨a',vs,rfl,aQ s3 hs,by rw[hv.length];exact hw,λp hp=>?_⟩);have x4:=Ext.laid (o:=.tup (nk vs l h)) s3 hp;exact q3 _ _ _ x4 (.tup (gh.of ay) ((pG hv).mono x4.bn)) (by simp)
 |@lst a' vs ds hs hv=>
  cases e
  refine .inl (.inl ⟨a',vs,rfl,s3.seq hs,λp hp=>?_⟩);have x4:=Ext.laid (o:=.lst (nk vs l h)) s3 hp;exact q3 _ _ _ x4 (.lst (fU.of ay) ((pG hv).mono x4.bn)) λ_=>⟨p,_,_,rfl,rfl,hp,ay,(pG hv).mono x4.bn⟩
 |str z=>
  dsimp only at e;split at e
  ·rename_i hz;cases e
   exact .inr (.inl ⟨z,rfl,hz,q3.one s3 (.str _)⟩)
  ·cases e
 |_=>cases e
theorem const_int {K:Frag}{y:Str}{i:Int}{t:Tok}(e:nsIn K mainGlobals y=some (some (.int i t))):∃u v,nsIn K mainGlobals y=some (some u)/\aK v u/\∀B,Is K B v (.int i):=⟨_,.int i,e,⟨t,rfl⟩,λ_=>.int i⟩
theorem const_str {K:Frag}{y:Str}{i:Str}{t:Tok}(e:nsIn K mainGlobals y=some (some (.str i t))):∃u v,nsIn K mainGlobals y=some (some u)/\aK v u/\∀B,Is K B v (.str i):=⟨_,.str i,e,⟨t,rfl⟩,λ_=>.str i⟩
noncomputable def pJ:Value->D->Bool
 |.none,.non=>true
 |.bool a,.bl b=>a == b
 |.int i _,.int j=>decide (i=j)
 |.str i _,.str j=>decide (i=j)
 |_,_=>false
def gI:List Value->List D->Bool
 |[],[]=>true
 |u::us,d::ds=>pJ u d && gI us ds
 |_,_=>false
theorem iF {K:Frag}{B:Hp}:∀ {u:Value}{d:D},pJ u d=true->∃v,aK v u/\Is K B v d
 |.none,.non,_=>⟨.non,rfl,.non⟩
 |.bool a,.bl b,h=>by
  have:a=b:=eq_of_beq h;subst this;exact⟨.bl a,rfl,.bl a⟩
 |.int i t,.int j,h=>by
  have:i=j:=of_decide_eq_true h;subst this;exact⟨.int i,⟨t,rfl⟩,.int i⟩
 |.str i t,.str j,h=>by
  have:i=j:=of_decide_eq_true h;subst this;exact⟨.str i,⟨t,rfl⟩,.str i⟩
theorem gJ {K:Frag}:∀ {us:List Value}{ds:List D},gI us ds=true->∃vs,L2.aP vs us/\∀B,IsL K B vs ds
 |[],[],_=>⟨[],.nil,λ_=>.nil⟩
 |u::us,d::ds,h=>by
  rw[gI,vD]at h;obtain⟨vs,r,i⟩:=gJ (K:=K) h.2;obtain⟨v,r1,_⟩:=iF (K:=K) (B:=λ_=>none) h.1;refine⟨v::vs,.cons r1 r,λB=>?_⟩;obtain⟨v',Lp,i'⟩:=iF (K:=K) (B:=B) h.1;have:v'=v:=by have z1:=r1.abs;rw[Lp.abs]at z1;exact vK z1
  subst this;exact .cons i' (i B)
theorem const_tup {K:Frag}{y:Str}{a:Addr}{od:Option Addr}{its:Array Value}{n:Nat}{ni:Array (Option Value)}{ds:List D}(e:nsIn K mainGlobals y=some (some (.ref a)))
  (l:K.lookup a=some ⟨.type "tuple",od,.seq its n,ni⟩) (h:(decide (its.size<=1000) && gI its.toList ds)=true):∃u v,nsIn K mainGlobals y=some (some u)/\aK v u/\∀B,Is K B v (.tup ds):=by
 rw[vD]at h;obtain⟨vs,r,i⟩:=gJ (K:=K) h.2;exact⟨_,.ref a,e,rfl,λB=>.tup (.inr ⟨_,its,n,l,rfl,rfl,Nat.le_of_lt (Nat.lt_of_le_of_lt (of_decide_eq_true h.1) (by decide)),r⟩) (i B)⟩
end
section
variable {X:Cx}{a b o e:Expr}{pos:Pos}{x:Str}{p:Pos}{tg:Expr}
theorem fX {name:Str}{id:String}{dq ce:Pos}{op:D->D->OB}{fo fe:FE}(slot:Slot "str" name id)(AU:typeOf (.builtin id)=pure (.type "method_descriptor"))
  (hm:ym X id (λx xs H Q=>∃y,xs=[y]/\rD X.K op x y H Q)) (AE:∀dx dy r,op dx dy=some r->∃z,dx=.str z) (ho:JE X o fo) (he:JE X e fe)
  (gD:attributeBase o name X.env (eval o X.env)=eval o X.env:=by rfl)
  (qr:((backTo ce (starEach [e] X.env)).all (λx=>!x.1) && (backToKw ce (keywordEach [] X.env)).all (λx=>x.1.isSome)
   && decide ([e].length+([]:List Keyword).length+(if([]:List Keyword).isEmpty then 0 else 1)<30))=true:=by rfl)
  (gE:(dq.endLine == ce.line)=true:=by rfl) (hs:starEach [e] X.env=[(false,eval e X.env)]:=by rfl):
  JE X (.Call (.Attribute o name dq) [e] [] ce) (f2 op fo fe):=by
 refine PE.to (u9 PySem.F.plainAttrs_str slot AU hm ho (eN he gG hs) gD qr gE hs rfl) λσ H Q q=>?_;obtain⟨B,ρ,d,bb,sB,r,ee,q⟩:=q;obtain⟨x1,ex,ee⟩:=oX ee;obtain⟨y1,ey,ee⟩:=oX ee;obtain⟨z,hz⟩:=AE _ _ _ ee;refine⟨B,ρ,x1.1,x1.2,sB,r,ex,λv H1 N1 Lq i1 _=>?_⟩;rw[hz]at i1;cases i1
 refine⟨show "str" = "str" from rfl,N1,ρ,y1.1,y1.2,Lq.nh,r.mono Lq.bn,ey,λv2 H2 N2 ww i2 _=>⟨v2,rfl,N2,.str z,y1.1,d,bb,ww.nh,.str z,i2,by rw[←hz];exact ee,q.into (Lq.trans ww)⟩⟩
@[simp] noncomputable def EY:D->Option Str
 |.str z=>some z
 |_=>none
def fO:List D->Option (List Str)
 |[]=>some []
 |d::ds=>(EY d).bind λz=>(fO ds).map (z :: ·)
@[simp] theorem Gp:fO []=some []:=rfl
@[simp] theorem t8 (d:D)(ds:List D):fO (d::ds)=(EY d).bind λz=>(fO ds).map (z :: ·):=rfl
@[simp] theorem Gq (zs:List Str):fO (zs.map D.str)=some zs:=by
 induction zs with
 |nil=>rfl
 |cons z zs ih=>simp[ih]
theorem gs {K:Frag}{B:Hp}:∀ {vs:List V}{ds:List D}{zs:List Str}{its:List Value},L2.aP vs its->IsL K B vs ds->fO ds=some zs->StrsAre its zs
 |_,_,_,_,.nil,.nil,e=>by cases e;exact .nil
 |_,_,_,_,.cons r rr,.cons i ii,e=>by
  rw[t8]at e;obtain⟨z,e1,e⟩:=oX e;obtain⟨zs,e2,e⟩:=oY e;subst e;cases i<;>simp only[EY]at e1<;>try (cases e1;done)
  cases e1
  obtain⟨t,rfl⟩:=r;exact .cons _ t (gs rr ii e2)
@[simp] def dg:D->D->OB
 |.str ye,.lst ds=>(fO ds).bind λzs=>if(zs.map (·.length)).sum+zs.length*ye.length<=16777216 then some (.str (Txt.join ye zs),false)else none
 |.str ye,.tup ds=>(fO ds).bind λzs=>if(zs.map (·.length)).sum+zs.length*ye.length<=16777216 then some (.str (Txt.join ye zs),false)else none
 |_,_=>none
theorem ij:ym X "str.join" (λx xs H Q=>∃y,xs=[y]/\rD X.K dg x y H Q):=by
 intro aa s σ H x xs v us Q I rx rs h;obtain⟨y,rfl,B,dx,dy,d,bb,sB,ix,iy,ee,q⟩:=h;obtain⟨u1,rfl,r1⟩:=gX rs;cases ix<;>(try (simp[dg]at ee;done))
 obtain⟨t,rfl⟩:=rx;cases iy<;>(try (simp[dg]at ee;done))
 ·rename_i h hl;simp only[dg]at ee;obtain⟨zs,ez,ee⟩:=oX ee;split at ee
  ·rename_i hok;cases ee
   cases r1
   obtain⟨its,rv,p1,z1⟩:=I.tuple (aQ sB h);exact join_tuple p1 (by simpa using gs rv hl ez) hok λt' k=>⟨.str _,H,I.tok k,⟨t',rfl⟩,q.one sB (.str _)⟩
  ·cases ee
 ·rename_i h hl;simp only[dg]at ee;obtain⟨zs,ez,ee⟩:=oX ee;split at ee
  ·rename_i hok;cases ee
   cases r1
   obtain⟨its,rv,p1,z1⟩:=I.list (sB.seq h);exact join_list p1.isList (by simpa using gs rv hl ez) hok λt' k=>⟨.str _,H,I.tok k,⟨t',rfl⟩,q.one sB (.str _)⟩
  ·cases ee
theorem eA (dx dy:D)(r:D×Bool)(h:dg dx dy=some r):∃z,dx=.str z:=by
 cases dx<;>first|exact⟨_,rfl⟩|(cases dy<;>simp[dg]at h)
noncomputable def dr:List Nat->List D->Env->Option Env
 |[],[],ρ=>some ρ
 |i::is,d::ds,ρ=>dr is ds (ρ.set i (some (d,false)))
 |_,_,_=>none
@[simp] theorem nZ (ρ:Env):dr [] [] ρ=some ρ:=by rw[dr]
@[simp] theorem jl (i:Nat)(is:List Nat)(d:D)(ds:List D)(ρ:Env):dr (i::is) (d::ds) ρ=dr is ds (ρ.set i (some (d,false))):=by rw[dr]
@[simp] theorem HI (d:D)(ds:List D)(ρ:Env):dr [] (d::ds) ρ=none:=by simp only[dr]
@[simp] theorem HJ (i:Nat)(is:List Nat)(ρ:Env):dr (i::is) [] ρ=none:=by simp only[dr]
@[simp] def qT (is:List Nat):FG:=λd ρ=>match d with|.tup ds=>dr is ds ρ|_=>none
def jm:List Nat->Dg
 |[]=>GJ
 |i::is=>Dh (iT i) (jm is)
theorem zj:aM (cW N (own σ ρ)) (cW N (own (σ.set i (some v)) (ρ.set i (some (d,false))))):=dD λa u e q=>⟨e,λz=>q (by
 rcases p9 z with⟨_,d',p⟩|⟨j,_,d',q1,q2⟩
 ·cases p
 ·exact⟨j,d',q1,q2⟩)⟩
theorem iG {K:Frag}:∀ {is:List Nat}{vs:List V}{ds:List D}{B0 H0 N H:Hp}{σ:St}{ρ ρ':Env}{Q:St->Hp->Prop},cV K B0 H0 N H σ ρ->IsL K (cW N (own σ ρ)) vs ds->dr is ds ρ=some ρ'->(∀σ',cV K B0 H0 N H σ' ρ'->Q σ' H)->jm is vs σ H Q
 |[],_,_,_,_,_,_,_,_,_,_,s,.nil,e,k=>by
  rw[nZ]at e;cases e;exact⟨rfl,k _ s⟩
 |[],_,_,_,_,_,_,_,_,_,_,_,.cons _ _,e,_=>by simp at e
 |_::_,_,_,_,_,_,_,_,_,_,_,_,.nil,e,_=>by simp at e
 |i::is,_,_,_,_,_,_,_,_,_,_,s,.cons h hs,e,k=>by
  rw[jl]at e;exact⟨_,_,rfl,iG (s.bind h) (hs.mono zj) e k⟩
theorem iH:∀ {is:List Nat}{ds:List D}{ρ ρ':Env},dr is ds ρ=some ρ'->ds.length=is.length
 |[],[],_,_,_=>rfl
 |_::_,_::_,_,_,e=>by rw[jl]at e;simp[iH e]
 |[],_::_,_,_,e=>by simp at e
 |_::_,[],_,_,e=>by simp at e
theorem zk {K:Frag}{is:List Nat}:BF K (qT is) (Ek K is.length (jm is)):=by
 intro B0 H0 N H σ ρ ρ' v d Q s h e k;cases h with
 |@tup a vs ds ht hl=>
  have e':dr is ds ρ=some ρ':=e;exact⟨a,vs,rfl,aQ (bA.trans s.ext.nh) ht,by rw[hl.length];exact iH e',iG s hl e' λσ' s'=>k σ' H ⟨N,s'⟩⟩
 |_=>cases e
theorem oe {K:Frag}{n:Nat}{B H:Hp}{ρ0:Env}{Q:St->Hp->Prop}(cl:∀i,i<n->ρ0[i]? = some none):∀ {is:List Nat}{vs:List V}{ds:List D}{σ:St}{ρ ρ1:Env},(∀i∈is,i<n)->dJ K B σ ρ->IsL K B vs ds->dr is ds ρ=some ρ1->ρ.length=σ.length->ρ.length=ρ0.length ->
  (∀σ1,dJ K B σ1 ρ1->(∀B',dJ K B' σ ρ0->dJ K B' σ1 ρ0)->ρ0.length=σ1.length->Q σ1 H)->jm is vs σ H Q
 |[],_,_,_,_,_,_,rp,.nil,e,l1,l2,k=>by
  rw[nZ]at e;cases e;exact⟨rfl,k _ rp (λ_ z=>z) (by omega)⟩
 |[],_,_,_,_,_,_,_,.cons _ _,e,_,_,_=>by simp at e
 |_::_,_,_,_,_,_,_,_,.nil,e,_,_,_=>by simp at e
 |i::is,_,_,σ,ρ,_,hn,rp,.cons (v:=v) h hs,e,l1,l2,k=>by
  rw[jl]at e;have hi:=hn i mX;have xX:i<σ.length:=by
   have:=(vV (cl i hi)).1;omega
  refine⟨_,_,rfl,oe cl (λj hj=>hn j (mZ _ hj)) ⟨rp.tb,λj d b q=>?_⟩ hs e (by simpa using l1) (by simpa using l2) λσ1 r1 r2 l=>k σ1 r1 (λB' z=>r2 B' ⟨z.tb,λj d b q=>?_⟩) l⟩
  ·rcases b8 q with⟨rfl,pp⟩|⟨ne,pp⟩
   ·cases pp
    exact⟨v,by simp[xX],h⟩
   ·obtain⟨w,h1,h2⟩:=rp.at' j d b pp;exact⟨w,by rw[vC ne];exact h1,h2⟩
  ·obtain⟨w,h1,h2⟩:=z.at' j d b q;have ne:i≠j:=λz=>by subst z;rw[cl i hi]at q;cases q
   exact⟨w,by rw[vC ne];exact h1,h2⟩
theorem Dx {K:Frag}{n:Nat}{is:List Nat}(hn:∀i∈is,i<n):Ds K n (qT is) (Ek K is.length (jm is)):=by
 intro B H σ ρ ρ1 v d Q cl rep s h e hl k;cases h with
 |@tup a vs ds ht hv=>
  have e':dr is ds ρ=some ρ1:=e;exact⟨a,vs,rfl,aQ s ht,by rw[hv.length];exact iH e',oe cl hn rep hv e' hl rfl k⟩
 |_=>cases e
end
section
variable {prog:Program}{w:World}{A:Around}{E:Value->Shared->Prop}{s:Shared}
theorem t9 (st:s.heap.IsTupleIter it l i)(ht:s.heap.IsTuple l au)(hv:au[i]? = some v)
  (k:∀h',h'.IsTupleIter it l (i+1)->Heap.SameBut it s.heap h'->Q v { s with heap:=h' }):wpAny (model prog w) A (Builtin.SmallTypes.nextOf (.ref it)) Q E s:=by
 obtain⟨o1,g1,c1,d1⟩:=id st;obtain⟨o2,g2,_,n2,d2⟩:=ht;unfold Builtin.SmallTypes.nextOf;refine wX (wpAny_callSpecial?_slot (name:=Str.ofString "__next__") st.typeIs PySem.F.slot_tuple_iterator_next (wpAny_call_entry PySem.F.slot_tuple_iterator_next st.typeIs PySem.F.entry_tuple_iterator_next ?_ (PySem.F.args_tuple_iterator_next_1 _)));show wpAny _ _ (field (.ref it) 0>>=_) _ _ _;refine wX (wpAny_field g1 d1 (x:=.ref l) rfl ?_);show wpAny _ _ (if(Value.ref l == Value.none)=true then _ else _) _ _ _;rw[if_neg (λz=>uY z:¬((Value.ref l == Value.none)=true))];show wpAny _ _ (field (.ref it) 1>>=_) _ _ _;refine wX (wpAny_field g1 d1 (x:=.int i 0) rfl ?_);show wpAny _ _ (seqItems? (.ref l)>>=_) _ _ _;refine wX (wpAny_seqItems g2 d2 ?_);simp only[hv,Int.toNat_natCast];refine wX (wpAny_setField g1 d1 (by simp) (wY ⟨v,rfl,wY (k _ ?_ (vW ..))⟩));exact⟨_,Heap.get?_update_self _ g1 (Obj.isFreed_of_fields (Obj.data_mapFields d1 _)),(Obj.cls_mapFields ..).trans c1,by rw[Obj.data_mapFields d1];simp[rawInt]⟩
theorem xf (hA:A.handled=none)(st:s.heap.IsTupleIter it l i)(ht:s.heap.IsTuple l au)(hv:au[i]? = none)
  (k:∀h' x,Heap.ExtBut it s.heap h'->(∃o,h'.get? x=some o/\o.cls=.type "StopIteration")->E (.ref x) { s with heap:=h' }):wpAny (model prog w) A (Builtin.SmallTypes.nextOf (.ref it)) Q E s:=by
 obtain⟨o1,g1,c1,d1⟩:=id st;obtain⟨o2,g2,_,n2,d2⟩:=ht;unfold Builtin.SmallTypes.nextOf;refine wX (wpAny_callSpecial?_slot (name:=Str.ofString "__next__") st.typeIs PySem.F.slot_tuple_iterator_next (wpAny_call_entry PySem.F.slot_tuple_iterator_next st.typeIs PySem.F.entry_tuple_iterator_next ?_ (PySem.F.args_tuple_iterator_next_1 _)));show wpAny _ _ (field (.ref it) 0>>=_) _ _ _;refine wX (wpAny_field g1 d1 (x:=.ref l) rfl ?_);show wpAny _ _ (if(Value.ref l == Value.none)=true then _ else _) _ _ _;rw[if_neg (λz=>uY z:¬((Value.ref l == Value.none)=true))];show wpAny _ _ (field (.ref it) 1>>=_) _ _ _;refine wX (wpAny_field g1 d1 (x:=.int i 0) rfl ?_);show wpAny _ _ (seqItems? (.ref l)>>=_) _ _ _;refine wX (wpAny_seqItems g2 d2 ?_);simp only[hv,Int.toNat_natCast];refine wX (wpAny_rule (wX (wpAny_setField g1 d1 (by simp) ?_)));show wpAny _ _ (newExc (.type "StopIteration") []>>=_) _ _ _;refine wX ?_;simp only[newTuple,newExc];refine wX (wpAny_newObj_type ?_ (by size_fits));refine wX (m:=firstArgMember _ _) (wpAny_of_eq (a:=Value.none) (by first|(simp only[firstArgMember];rfl)|rfl) ?_);refine wpAny_newObj_type ?_ (by size_fits);simp only[raiseNew];refine wX (wpAny_handled ?_);first|rw[hA]|rw[show A.in1.handled=none from hA]
 exact wX (wY (wpAny_throw (k _ _ (((vW ..).extBut.push _).push _) ⟨_,vY _ rfl,rfl⟩)))
end
def jz:Bool->Heap->Addr->Addr->Nat->Prop
 |true,h,it,a,i=>h.IsListIter it a i
 |false,h,it,a,i=>h.IsTupleIter it a i
def jo:Bool->Heap->Addr->Array Value->Prop
 |true,h,a,au=>h.IsList a au
 |false,h,a,au=>h.IsTuple a au
def kQ (k:Bool)(K:Frag)(H:Hp)(a:Addr)(xs:List V):Prop:=match k with|true=>fU K H a xs|false=>gh K H a xs
theorem jz.ob (st:jz k h it a i):∃o,h.get? it=some o/\∀v,o.data≠.cell v:=by
 cases k<;>(obtain⟨o,g,_,d⟩:=st;exact⟨o,g,λv z=>by rw[d]at z;cases z⟩)
theorem jz.upon (st:jz k h it a i)(g:∀o,h.get? it=some o->h'.get? it=some o):jz k h' it a i:=by
 cases k<;>(obtain⟨o,e,r⟩:=st;exact⟨o,g o e,r⟩)
theorem jo.upon (st:jo k h a au)(g:∀o,h.get? a=some o->h'.get? a=some o):jo k h' a au:=by
 cases k<;>(obtain⟨o,e,r⟩:=st;exact⟨o,g o e,r⟩)
theorem jo.lt (st:jo k h a au):a<h.objs.size:=by
 cases k<;>(obtain⟨o,e,r⟩:=st;exact vX e)
theorem kQ.same {k:Bool}{K:Frag}{H H':Hp}{a:Addr}{xs:List V}(h:kQ k K H a xs)(e:aM H H'):kQ k K H' a xs:=by
 cases k
 ·exact aQ e h
 ·exact e.seq h
theorem kQ.vals (I:Inv X aa σ H s)(h:kQ k X.K H a xs):∃its:List Value,aP xs its/\jo k s.heap a its.toArray/\xs.length<=sizeLine:=by
 cases k
 ·exact I.tuple h
 ·obtain⟨its,r,p,z⟩:=I.list h;exact⟨its,r,p.isList,z⟩
theorem kQ.inj (I:Inv X aa σ H s)(h:kQ k X.K H a xs)(h':kQ k X.K H a ys):xs=ys:=by
 cases k
 ·exact I.tuple_inj h h'
 ·exact I.list_inj h h'
section
variable {prog:Program}{w:World}{A:Around}{E:Value->Shared->Prop}{s:Shared}
theorem eV (st:jz k s.heap it l i)(ht:jo k s.heap l au)(hv:au[i]? = some v)
  (q:∀h',jz k h' it l (i+1)->Heap.SameBut it s.heap h'->Q v { s with heap:=h' }):wpAny (model prog w) A (Builtin.SmallTypes.nextOf (.ref it)) Q E s:=by
 cases k
 ·exact t9 st ht hv q
 ·exact wpAny_nextOf_list_item st ht hv q
theorem jB (hA:A.handled=none)(st:jz k s.heap it l i)(ht:jo k s.heap l au)(hv:au[i]? = none)
  (q:∀h' x,Heap.ExtBut it s.heap h'->(∃o,h'.get? x=some o/\o.cls=.type "StopIteration")->E (.ref x) { s with heap:=h' }):wpAny (model prog w) A (Builtin.SmallTypes.nextOf (.ref it)) Q E s:=by
 cases k
 ·exact xf hA st ht hv q
 ·exact wpAny_nextOf_list_end hA st ht hv q
end
noncomputable def Jw (k:Bool)(l:Addr):Obj:={ cls:=.type (if k=true then "list_iterator" else "tuple_iterator"),data:=.fields #[.ref l,.int 0 0] }
theorem vk (ht:jo k s.heap l au)
  (q:Q (.ref s.heap.objs.size) { s with heap:=s.heap.push (Jw k l) }):wpAny (model prog w) A (pyIter (.ref l)) Q E s:=by
 cases k
 ·exact wpAny_pyIter_tuple ht q
 ·exact wpAny_pyIter_list ht q
theorem jo.push (st:jo k h a au)(o:Obj):jo k (h.push o) a au:=st.upon λ_ e=>vZ _ e
section
variable (k1 k2:Bool) (h:Heap) (l1 l2:Addr)
abbrev zA:Heap:=h.push (Jw k1 l1)
abbrev zB:Heap:=(zA k1 h l1).push (Jw k2 l2)
abbrev zC:Heap:=(zB k1 k2 h l1 l2).push { cls:=.type "tuple",data:=.seq #[.ref h.objs.size,.ref (zA k1 h l1).objs.size] }
abbrev zD:Heap:=(zC k1 k2 h l1 l2).push { cls:=.type "tuple",data:=.seq #[.none,.none] }
abbrev zE:Heap:=(zD k1 k2 h l1 l2).push { cls:=.type "zip",data:=.fields #[.none,.bool false,.bool false,.ref (zB k1 k2 h l1 l2).objs.size,.ref (zC k1 k2 h l1 l2).objs.size] }
end
theorem tE (k1 k2:Bool)(l1 l2:Addr)(xs ys:Array Value):Meets (Builtin.«zip.__new__» ⟨[.type "zip",.ref l1,.ref l2],[]⟩) (λ_ R s=>jo k1 s.heap l1 xs/\jo k2 s.heap l2 ys /\
   R (.ok (.ret (.ref (zD k1 k2 s.heap l1 l2).objs.size))) { s with heap:=zE k1 k2 s.heap l1 l2 }) :=
 .of_wp λprog w A R s hs=>by
  obtain⟨hp,g,d,tk,os⟩:=s;obtain⟨q1,q2,hs⟩:=hs;have AF:=sub_zip;have p1:jo k1 (Shared.heap ⟨hp,g,d,tk,os⟩) l1 xs:=q1;have p2:jo k2 (Shared.heap ⟨hp.push (Jw k1 l1),g,d,tk,os⟩) l2 ys:=jo.push q2 _;wp_walk using vk p1,vk p2;exact⟨_,rfl,hs⟩
section
variable {prog:Program}{w:World}{A:Around}{E:Value->Shared->Prop}{s:Shared}
theorem vm (q1:jo k1 s.heap l1 xs)(q2:jo k2 s.heap l2 ys)
  (q:∀h',IsZip h' (s.heap.objs.size+4) (s.heap.objs.size+2) (s.heap.objs.size+3) .none->IsPair h' (s.heap.objs.size+2) (.ref s.heap.objs.size) (.ref (s.heap.objs.size+1))->IsPair h' (s.heap.objs.size+3) .none .none ->
   jz k1 h' s.heap.objs.size l1 0->jz k2 h' (s.heap.objs.size+1) l2 0->(∀c o,s.heap.get? c=some o->h'.get? c=some o)->Q (.ref (s.heap.objs.size+4)) { s with heap:=h' }):
  wpAny (model prog w) A (call (.type "zip") [.ref l1,.ref l2]) Q E s:=by
 refine callType_new PySem.F.called_zip (by decide) (PySem.F.typeCall_zip_2 _ _) (PySem.F.newCall_zip_2 _ _) (λobj=>PySem.F.args_object_init_3 obj _ _) PySem.F.entry_zip_new (tE k1 k2 l1 l2 xs ys) ⟨q1,q2,?_⟩;have n1:(zA k1 s.heap l1).objs.size=s.heap.objs.size+1:=Heap.size_push ..;have n2:(zB k1 k2 s.heap l1 l2).objs.size=s.heap.objs.size+2:=by rw[Heap.size_push,n1]
 have n3:(zC k1 k2 s.heap l1 l2).objs.size=s.heap.objs.size+3:=by rw[Heap.size_push,n2]
 have n4:(zD k1 k2 s.heap l1 l2).objs.size=s.heap.objs.size+4:=by rw[Heap.size_push,n3]
 have u5:∀ {c o},(zD k1 k2 s.heap l1 l2).get? c=some o->(zE k1 k2 s.heap l1 l2).get? c=some o:=λe=>vZ _ e;have u4:∀ {c o},(zC k1 k2 s.heap l1 l2).get? c=some o->(zE k1 k2 s.heap l1 l2).get? c=some o:=λe=>u5 (vZ _ e);have u3:∀ {c o},(zB k1 k2 s.heap l1 l2).get? c=some o->(zE k1 k2 s.heap l1 l2).get? c=some o:=λe=>u4 (vZ _ e);have u2:∀ {c o},(zA k1 s.heap l1).get? c=some o->(zE k1 k2 s.heap l1 l2).get? c=some o:=λe=>u3 (vZ _ e);have u1:∀ {c o},s.heap.get? c=some o->(zE k1 k2 s.heap l1 l2).get? c=some o:=λe=>u2 (vZ _ e);have g5:(zE k1 k2 s.heap l1 l2).get? (zD k1 k2 s.heap l1 l2).objs.size=some _:=vY _ rfl;have g4:(zE k1 k2 s.heap l1 l2).get? (zC k1 k2 s.heap l1 l2).objs.size=some _:=u5 (vY _ rfl);have g3:(zE k1 k2 s.heap l1 l2).get? (zB k1 k2 s.heap l1 l2).objs.size=some _:=u4 (vY _ rfl);have g2:(zE k1 k2 s.heap l1 l2).get? (zA k1 s.heap l1).objs.size=some _:=u3 (vY _ (by cases k2<;>rfl))
 have g1:(zE k1 k2 s.heap l1 l2).get? s.heap.objs.size=some _:=u2 (vY _ (by cases k1<;>rfl))
 rw[n2,n3,n4]at g5;rw[n1,n2]at g3;rw[n3]at g4;rw[n1]at g2;show _/\_;rw[n4];refine⟨⟨_,g5,rfl⟩,q _ g5 g3 g4 ?_ ?_ λc o e=>u1 e⟩
 ·cases k1<;>exact⟨_,g1,rfl,rfl⟩
 ·cases k2<;>exact⟨_,g2,rfl,rfl⟩
structure ZApart (z TI TO i1 i2:Addr):Prop where
 tz:TI≠z
 oz:TO≠z
 az:i1≠z
 bz:i2≠z
 oa:TO≠i1
 ob:TO≠i2
 to:TI≠TO
 ta:TI≠i1
 tb:TI≠i2
 ab:i1≠i2
theorem qU {k1 k2:Bool}{z TI TO i1 i2 l1 l2:Addr}{j:Nat}{xs ys:Array Value}{x y a b:Value}{Q:Value->Shared->Prop}(D:ZApart z TI TO i1 i2)(m1:l1≠z/\l1≠TO/\l1≠i1)(m2:l2≠z/\l2≠TO/\l2≠i1/\l2≠i2)
  (hz:IsZip s.heap z TI TO .none) (hI:IsPair s.heap TI (.ref i1) (.ref i2)) (hO:IsPair s.heap TO a b) (t1:jz k1 s.heap i1 l1 j) (t2:jz k2 s.heap i2 l2 j) (q1:jo k1 s.heap l1 xs) (q2:jo k2 s.heap l2 ys) (hx:xs[j]? = some x) (hy:ys[j]? = some y)
  (q:∀h',IsZip h' z TI TO (rawInt s.heap.objs.size)->IsPair h' TO x y->jz k1 h' i1 l1 (j+1)->jz k2 h' i2 l2 (j+1)->IsPair h' s.heap.objs.size x y->h'.objs.size=s.heap.objs.size+1 ->
   (∀c o,c≠z->c≠TO->c≠i1->c≠i2->s.heap.get? c=some o->h'.get? c=some o)->Q (.ref s.heap.objs.size) { s with heap:=h' }):
  wpAny (model prog w) A (Builtin.«zip.__next__» ⟨[.ref z],[]⟩) (λhW s'=>∃v,hW=.done (.ret v)/\Q v s') E s:=by
 show wpAny _ _ (field (.ref z) 2>>=_) _ _ s;refine wX (wpAny_field hz rfl (x:=.bool false) rfl ?_);show wpAny _ _ (field (.ref z) 3>>=_) _ _ s;refine wX (wpAny_field hz rfl (x:=.ref TI) rfl (wX (wpAny_seqItems hI rfl ?_)));show wpAny _ _ (Builtin.SmallTypes.ownedTupleIsFree (.ref z)>>=_) _ _ s;refine wX ?_;unfold Builtin.SmallTypes.ownedTupleIsFree;refine wX (wpAny_field hz rfl (x:=.none) rfl (wY ?_));simp only[if_true];refine wX (wpAny_rule (wX (wpAny_field hz rfl (x:=.ref TO) rfl (wX (wpAny_setField_rec hz (by simp) λg1 hz1 s1=>?_)))));replace hz1:IsZip g1 z TI TO .ellipsis:=hz1;refine wX ?_;simp only[List.forIn_cons,List.forIn_nil,List.zipIdx_cons,List.zipIdx_nil];refine wX (wX (wpAny_onRaise ?_));show wpAny _ _ (Builtin.SmallTypes.nextOf (.ref i1)>>=_) _ _ { s with heap:=g1 };refine wX (eV (s:={ s with heap:=g1 }) (t1.upon λo e=>s1.extBut _ _ D.az e) (q1.upon λo e=>s1.extBut _ _ m1.1 e) hx λg2 t12 s2=>wY ?_);have IZ:IsPair g2 TO a b:=s2.extBut _ _ D.oa (s1.extBut _ _ D.oz hO);refine wX (wpAny_seqItems IZ rfl (wX (wpAny_updateSeq_pair IZ λg3 hO3 s3=>?_)));replace hO3:IsPair g3 TO x b:=hO3;refine wX (wpAny_letGo (wY (wX (wX (wpAny_onRaise ?_)))));show wpAny _ _ (Builtin.SmallTypes.nextOf (.ref i2)>>=_) _ _ { s with heap:=g3 };have FR:∀ {c o},c≠z->c≠TO->c≠i1->s.heap.get? c=some o->g3.get? c=some o:=λc1 c2 c3 e=>s3.extBut _ _ c2 (s2.extBut _ _ c3 (s1.extBut _ _ c1 e));refine wX (eV (s:={ s with heap:=g3 }) (t2.upon λo e=>FR D.bz D.ob.symm D.ab.symm e) (q2.upon λo e=>FR m2.1 m2.2.1 m2.2.2.1 e) hy λg4 t24 s4=>wY ?_);have MM:IsPair g4 TO x b:=s4.extBut _ _ D.ob hO3;refine wX (wpAny_seqItems MM rfl (wX (wpAny_updateSeq_pair MM λg5 hO5 s5=>?_)));replace hO5:IsPair g5 TO x y:=hO5;refine wX (wpAny_letGo (wY (wY (wX (wpAny_seqItems hO5 rfl (wX (wpAny_newTuple ?_)))))));have sz:g5.objs.size=s.heap.objs.size:=by rw[s5.1,s4.1,s3.1,s2.1,s1.1]
 have OJ:∀c o,c≠z->c≠TO->c≠i1->c≠i2->s.heap.get? c=some o->g5.get? c=some o:=λc o c1 c2 c3 c4 e=>s5.extBut _ _ c2 (s4.extBut _ _ c4 (FR c1 c2 c3 e));have MN:IsZip g5 z TI TO .ellipsis:=s5.extBut _ _ D.oz.symm (s4.extBut _ _ D.bz.symm (s3.extBut _ _ D.oz.symm (s2.extBut _ _ D.az.symm hz1)));have OK:jz k1 g5 i1 l1 (j+1):=t12.upon λo e=>s5.extBut _ _ D.oa.symm (s4.extBut _ _ D.ab (s3.extBut _ _ D.oa.symm e));have OL:jz k2 g5 i2 l2 (j+1):=t24.upon λo e=>s5.extBut _ _ D.ob.symm e;have MO:z<g5.objs.size:=vX MN;show wpAny _ _ (Builtin.SmallTypes.ownedTupleHandOut (.ref z) (.ref g5.objs.size)>>=_) _ _ { s with heap:=g5.push { cls:=.type "tuple",data:=.seq #[x,y] } };refine wX ?_;unfold Builtin.SmallTypes.ownedTupleHandOut;have OM:IsZip (g5.push { cls:=.type "tuple",data:=.seq #[x,y] }) z TI TO .ellipsis:=vZ _ MN;refine wX (wpAny_setField_rec OM (by simp) λg7 hz7 s7=>?_);replace hz7:IsZip g7 z TI TO (rawInt g5.objs.size):=hz7;refine wpAny_setField_rec hz7 (by simp) λg8 hz8 s8=>?_;replace hz8:IsZip g8 z TI TO (rawInt g5.objs.size):=hz8;have JD:∀c o,c≠z->g5.get? c=some o->g8.get? c=some o:=λc o c1 e=>s8.extBut _ _ c1 (s7.extBut _ _ c1 (vZ _ e));have MP:IsPair g8 g5.objs.size x y:=s8.extBut _ _ (Nat.ne_of_gt MO) (s7.extBut _ _ (Nat.ne_of_gt MO) (vY _ rfl));have MQ:g8.objs.size=g5.objs.size+1:=by rw[s8.1,s7.1,Heap.size_push]
 rw[sz]at hz8 MP MQ;refine wY ⟨_,rfl,?_⟩;show Q (.ref g5.objs.size) _;rw[sz];exact q g8 hz8 (JD _ _ D.oz hO5) (OK.upon λo e=>JD _ o D.az e) (OL.upon λo e=>JD _ o D.bz e) MP MQ λc o c1 c2 c3 c4 e=>JD c o c1 (OJ c o c1 c2 c3 c4 e)
end
section
variable {prog:Program}{w:World}{A:Around}{E:Value->Shared->Prop}{s:Shared}
theorem vn {k1 k2:Bool}{z TI TO i1 i2 l1 l2:Addr}{j:Nat}{xs ys:Array Value}{a b:Value}{Q:PySem.Fin->Shared->Prop}(hA:A.handled=none)(D:ZApart z TI TO i1 i2)(m1:l1≠z/\l1≠TO/\l1≠i1)(m2:l2≠z/\l2≠TO/\l2≠i1/\l2≠i2)
  (hz:IsZip s.heap z TI TO .none) (hI:IsPair s.heap TI (.ref i1) (.ref i2)) (hO:IsPair s.heap TO a b) (t1:jz k1 s.heap i1 l1 j) (t2:jz k2 s.heap i2 l2 j) (q1:jo k1 s.heap l1 xs) (q2:jo k2 s.heap l2 ys) (he:xs[j]? = none∨ys[j]? = none)
  (q:∀h' x,(∀c o,c≠z->c≠TO->c≠i1->c≠i2->s.heap.get? c=some o->h'.get? c=some o)->(∃o,h'.get? x=some o/\o.cls=.type "StopIteration")->E (.ref x) { s with heap:=h' }):
  wpAny (model prog w) A (Builtin.«zip.__next__» ⟨[.ref z],[]⟩) Q E s:=by
 show wpAny _ _ (field (.ref z) 2>>=_) _ _ s;refine wX (wpAny_field hz rfl (x:=.bool false) rfl ?_);show wpAny _ _ (field (.ref z) 3>>=_) _ _ s;refine wX (wpAny_field hz rfl (x:=.ref TI) rfl (wX (wpAny_seqItems hI rfl ?_)));show wpAny _ _ (Builtin.SmallTypes.ownedTupleIsFree (.ref z)>>=_) _ _ s;refine wX ?_;unfold Builtin.SmallTypes.ownedTupleIsFree;refine wX (wpAny_field hz rfl (x:=.none) rfl (wY ?_));simp only[if_true];refine wX (wpAny_rule (wX (wpAny_field hz rfl (x:=.ref TO) rfl (wX (wpAny_setField_rec hz (by simp) λg1 hz1 s1=>?_)))));replace hz1:IsZip g1 z TI TO .ellipsis:=hz1;refine wX ?_;simp only[List.forIn_cons,List.forIn_nil,List.zipIdx_cons,List.zipIdx_nil];refine wX (wX (wpAny_onRaise ?_));show wpAny _ _ (Builtin.SmallTypes.nextOf (.ref i1)>>=_) _ _ { s with heap:=g1 };cases hx:xs[j]? with
 |none=>
  refine wX (jB (s:={ s with heap:=g1 }) hA (t1.upon λo e=>s1.extBut _ _ D.az e) (q1.upon λo e=>s1.extBut _ _ m1.1 e) hx λg2 x s2 hX=>?_);obtain⟨oU,eX,cX⟩:=hX;have JF:IsZip g2 z TI TO .ellipsis:=s2 _ _ D.az.symm hz1;have nz:x≠z:=λz'=>by subst z';rw[JF]at eX;cases eX;simp at cX
  exact wpAny_setField_rec JF (by simp) λg3 _ s3=>q g3 x (λc o c1 _ c3 _ e=>s3.extBut _ _ c1 (s2 _ _ c3 (s1.extBut _ _ c1 e))) ⟨oU,s3.extBut _ _ nz eX,cX⟩
 |some v=>
  have hy:ys[j]? = none:=by
   rcases he with h|h
   ·rw[hx]at h;cases h
   ·exact h
  refine wX (eV (s:={ s with heap:=g1 }) (t1.upon λo e=>s1.extBut _ _ D.az e) (q1.upon λo e=>s1.extBut _ _ m1.1 e) hx λg2 t12 s2=>wY ?_);have IZ:IsPair g2 TO a b:=s2.extBut _ _ D.oa (s1.extBut _ _ D.oz hO);refine wX (wpAny_seqItems IZ rfl (wX (wpAny_updateSeq_pair IZ λg3 hO3 s3=>?_)));refine wX (wpAny_letGo (wY (wX (wX (wpAny_onRaise ?_)))));show wpAny _ _ (Builtin.SmallTypes.nextOf (.ref i2)>>=_) _ _ { s with heap:=g3 };have FR:∀ {c o},c≠z->c≠TO->c≠i1->s.heap.get? c=some o->g3.get? c=some o:=λc1 c2 c3 e=>s3.extBut _ _ c2 (s2.extBut _ _ c3 (s1.extBut _ _ c1 e));refine wX (jB (s:={ s with heap:=g3 }) hA (t2.upon λo e=>FR D.bz D.ob.symm D.ab.symm e) (q2.upon λo e=>FR m2.1 m2.2.1 m2.2.2.1 e) hy λg4 x s4 hX=>?_);obtain⟨oU,eX,cX⟩:=hX;have MR:IsZip g4 z TI TO .ellipsis:=s4 _ _ D.bz.symm (s3.extBut _ _ D.oz.symm (s2.extBut _ _ D.az.symm hz1));have nz:x≠z:=λz'=>by subst z';rw[MR]at eX;cases eX;simp at cX
  exact wpAny_setField_rec MR (by simp) λg5 _ s5=>q g5 x (λc o c1 c2 c3 c4 e=>s5.extBut _ _ c1 (s4 _ _ c4 (FR c1 c2 c3 e))) ⟨oU,s5.extBut _ _ nz eX,cX⟩
end
theorem lv {X:Cx}{aa:List (Addr×Obj)}{σ:St}{H:Hp}{s:Shared}{h':Heap}{t':Nat}{ch:List Addr}(I:Inv X aa σ H s)(f:∀b∈ch,j5 X aa H b)(k:∀b o,b∉ch->s.heap.get? b=some o->h'.get? b=some o):Inv X aa σ H { s with heap:=h',toks:=t' }:=by
 have DI:∀b u,H b=some u->b∉ch:=λb u e z=>by rw[(f b z).1]at e;cases e
 refine I.step (g':=s.gens) (d':=s.drawn) (ch:=ch) (λb hb=>?_) (λb o _ _ hc e _=>k b o hc e) (λb o _ _ hc e _=>⟨o.slots,k b o hc e⟩) (λ_ _ _ _ n=>n)
  (λb o hc e=>⟨o,k b o hc e⟩) (λ_ _ e=>e) (λ_ _ _ e=>e) (λ_ _ e=>e) (λm hm=>?_) (λb u e=>?_) I.bare
 ·obtain⟨_,f1,_,f3,f4,f5⟩:=f b hb;exact⟨f3,f1,f4,f5⟩
 ·obtain⟨o,es,ep,ho,r⟩:=hm;exact⟨o,es,ep,k _ o (λz=>(f _ z).2.1 rfl) ho,r⟩
 ·refine(I.hok b u e).stay (λc v hc q=>k c v ?_ q) (λ_ q=>q) (λ_ _ q=>q) λ_ _ _ q=>q;rcases hc with z|z
  ·rw[z];exact DI b u e
  ·exact DI c _ z
theorem zm {X:Cx}{aa:List (Addr×Obj)}{σ:St}{H:Hp}{s:Shared}{h':Heap}{t':Nat}{ch:List Addr}{a:Addr}{ob:HO}(I:Inv X aa σ H s)(f:∀b∈ch,j5 X aa H b)(k:∀b o,b∉ch->s.heap.get? b=some o->h'.get? b=some o)(ha:s.heap.objs.size<=a)
  (new:br X.prog X.w (upd H a ob) h' a ob):Inv X aa σ (upd H a ob) { s with heap:=h',toks:=t' }:=by
 have hn:H a=none:=I.hok.fresh ha;have DI:∀b u,H b=some u->b∉ch:=λb u e z=>by rw[(f b z).1]at e;cases e
 have na:∀b o,s.heap.get? b=some o->b≠a:=λb o e=>vS (vQ (vX e) ha);refine I.step (g':=s.gens) (d':=s.drawn) (ch:=ch) (λb hb=>?_) (λb o _ _ hc e _=>k b o hc e) (λb o _ _ hc e _=>⟨o.slots,k b o hc e⟩) (λb o _ e n=>by rw[a9 (na b o e)];exact n)
  (λb o hc e=>⟨o,k b o hc e⟩) (λb xs e=>by rw[a9 (bx e hn)];exact e) (λb o u e=>by rw[a9 (bx e hn)];exact e) (λb ps e=>by rw[a9 (bx e hn)];exact e) (λm hm=>?_) (λb u e=>?_) I.bare
 ·obtain⟨_,f1,_,f3,f4,f5⟩:=f b hb;exact⟨f3,f1,f4,f5⟩
 ·obtain⟨o,es,ep,ho,r⟩:=hm;exact⟨o,es,ep,k _ o (λz=>(f _ z).2.1 rfl) ho,r⟩
 ·by_cases hb:b=a
  ·subst hb;rw[ay]at e;cases e;exact new
  ·rw[a9 hb]at e;refine(I.hok b u e).stay (λc v hc q=>k c v ?_ q) (λc q=>?_) (λc xs q=>?_) λc o xs q=>?_
   ·rcases hc with z|z
    ·rw[z];exact DI b u e
    ·exact DI c _ z
   ·rw[a9 (bx q hn)];exact q
   ·rw[a9 (bx q hn)];exact q
   ·rw[a9 (bx q hn)];exact q
noncomputable def K0 (K:Frag)(k1 k2:Bool)(a1 a2:Addr):It :=
  ⟨λi H=>∃xs ys x y,kQ k1 K H a1 xs/\kQ k2 K H a2 ys/\xs[i]? = some x/\ys[i]? = some y,
   λi H v H'=>∃T x y,v=.ref T/\H T=none/\H'=upd H T (.tup [x,y])/\(∀xs,kQ k1 K H a1 xs->xs[i]? = some x)/\(∀ys,kQ k2 K H a2 ys->ys[i]? = some y),
   λi H=>∃xs ys,kQ k1 K H a1 xs/\kQ k2 K H a2 ys/\(xs.length<=i∨ys.length<=i)⟩
theorem zn {P:Program}{w:World}{K:Frag}{es:List Expr}{kt:Nat}{pt:Pos}{k1 k2:Bool}{a1 a2 z TI TO i1 i2:Addr}(D:ZApart z TI TO i1 i2)(m1:a1≠z/\a1≠TO/\a1≠i1)(m2:a2≠z/\a2≠TO/\a2≠i1/\a2≠i2):
  Turn P w K (.Tuple es kt pt) (K0 K k1 k2 a1 a2) [z,TI,TO,i1,i2] z (λi h=>IsZip h z TI TO .none/\IsPair h TI (.ref i1) (.ref i2)/\(∃a b,IsPair h TO a b)/\jz k1 h i1 a1 i/\jz k2 h i2 a2 i) where
 mem:=by simp
 obj:=λi h st b hb=>by
  obtain⟨hz,hI,⟨a,c,hO⟩,t1,t2⟩:=st;simp at hb;rcases hb with rfl|rfl|rfl|rfl|rfl
  ·exact⟨_,hz,λv z=>by cases z⟩
  ·exact⟨_,hI,λv z=>by cases z⟩
  ·exact⟨_,hO,λv z=>by cases z⟩
  ·exact t1.ob
  ·exact t2.ob
 keep:=λi h h' st k=>by
  obtain⟨hz,hI,⟨a,c,hO⟩,t1,t2⟩:=st;exact⟨k z (by simp) _ hz,k TI (by simp) _ hI,⟨a,c,k TO (by simp) _ hO⟩,t1.upon λo e=>k i1 (by simp) o e,t2.upon λo e=>k i2 (by simp) o e⟩
 item:=by
  intro X hP hw hK hc i aa s σ H E I hf st hg;subst hP hw hK;obtain⟨hz,hI,⟨a,c,hO⟩,t1,t2⟩:=st;obtain⟨xs,ys,x,y,q1,q2,hx,hy⟩:=hg;obtain⟨its,r1,p1,z1⟩:=q1.vals I;obtain⟨nH,r2,p2,z2⟩:=q2.vals I;obtain⟨u,hu,ru⟩:=r1.get hx;obtain⟨v,hv,rv⟩:=r2.get hy;have hT:s.TypeIs (.ref z) "zip":=⟨_,hz,rfl⟩;have fresh:H s.heap.objs.size=none:=I.hok.fresh (vT _);have lt:∀ {c o},s.heap.get? c=some o->c≠s.heap.objs.size:=λe=>vS (vX e);have l1:i1≠s.heap.objs.size:=by obtain⟨o,e,_⟩:=t1.ob;exact lt e
  have l2:i2≠s.heap.objs.size:=by obtain⟨o,e,_⟩:=t2.ob;exact lt e
  unfold pyNext;refine wX (wpAny_attempt (wpAny_callSpecial?_slot (name:=Str.ofString "__next__") hT PySem.F.slot_zip_next (wpAny_call_entry PySem.F.slot_zip_next hT PySem.F.entry_zip_next (qU D m1 m2 hz hI hO t1 t2 p1 p2 (by simpa using hu) (by simpa using hv) λh' b1 b2 b3 b4 b5 b6 bk=>wY ?_) (PySem.F.args_zip_next_1 _))));refine⟨_,rfl,wpAny_letOwnedTupleGo_zip (s:={ s with heap:=h' }) b1 λh2 c1 s2=>?_⟩;have AY:Heap.SameBut z h' h2:=s2;have kk:∀b o,b∉[z,TI,TO,i1,i2]->s.heap.get? b=some o->h2.get? b=some o:=λb o hb e=>
   AY.extBut _ _ (λq=>hb (by simp[q])) (bk b o (λq=>hb (by simp[q])) (λq=>hb (by simp[q])) (λq=>hb (by simp[q])) (λq=>hb (by simp[q])) e)
  have I1:Inv X aa σ H { s with heap:=h2 }:=lv (t':=s.toks) I hf kk;have zT:s.heap.objs.size≠z:=(lt hz).symm;have new:br X.prog X.w (upd H s.heap.objs.size (.tup [x,y])) h2 s.heap.objs.size (.tup [x,y]):=⟨by show 2<=sizeLine;decide,[u,v],.cons ru (.cons rv .nil),⟨_,AY.extBut _ _ zT b5,rfl,_,rfl⟩⟩;refine⟨.ref s.heap.objs.size,upd H s.heap.objs.size (.tup [x,y]),?_,rfl,⟨_,x,y,rfl,fresh,rfl,λzs hq=>by rw[kQ.inj I hq q1];exact hx,λzs hq=>by rw[kQ.inj I hq q2];exact hy⟩,?_,λb hb=>?_⟩
  ·exact zm (s:=s) (t':=s.toks) I hf kk (vT _) new
  ·exact⟨c1,AY.extBut _ _ D.tz (bk _ _ D.tz D.to D.ta D.tb hI),⟨_,_,AY.extBut _ _ D.oz b2⟩,b3.upon λo e=>AY.extBut _ _ D.az e,b4.upon λo e=>AY.extBut _ _ D.bz e⟩
  ·have yg:b≠s.heap.objs.size:=by
    simp at hb;rcases hb with rfl|rfl|rfl|rfl|rfl
    ·exact lt hz
    ·exact lt hI
    ·exact lt hO
    ·exact l1
    ·exact l2
   rw[a9 yg];exact(hf b hb).1
 done:=by
  intro X hP hw hK hc i aa s σ H E I hf st hg;subst hP hw hK;obtain⟨hz,hI,⟨a,c,hO⟩,t1,t2⟩:=st;obtain⟨xs,ys,q1,q2,hl⟩:=hg;obtain⟨its,r1,p1,z1⟩:=q1.vals I;obtain⟨nH,r2,p2,z2⟩:=q2.vals I;have hT:s.TypeIs (.ref z) "zip":=⟨_,hz,rfl⟩;have n1:=r1.length;have n2:=r2.length;unfold pyNext;refine wX (wpAny_attempt (wpAny_callSpecial?_slot (name:=Str.ofString "__next__") hT PySem.F.slot_zip_next (wpAny_call_entry PySem.F.slot_zip_next hT PySem.F.entry_zip_next (vn (I.ok.hd hc) D m1 m2 hz hI hO t1 t2 p1 p2 (hl.imp (λq=>by simp;omega) λq=>by simp;omega) λh' x hk hX=>?_) (PySem.F.args_zip_next_1 _))));obtain⟨o,eo,co⟩:=hX;refine wX (wpAny_isInstance (T:="StopIteration") (b:=true) ⟨o,eo,co⟩ isSubtype_stop (wY ⟨rfl,?_⟩));exact lv (t':=s.toks) I hf λb o hb e=>hk b o (λq=>hb (by simp[q])) (λq=>hb (by simp[q])) (λq=>hb (by simp[q])) (λq=>hb (by simp[q])) e
 self:=λ_ _ _ _ _ st h=>wpAny_pyIter_zip st.1 h
section
variable {X:Cx}{a b e:Expr}{pos:Pos}{p:Pos}
theorem Dy:bootBuiltins "zip" = some (.type "zip"):=by decide +kernel
def HK (K:Frag)(ta:TA):TI:=λσ H R=>ta σ H λvs H1=>∃(k1 k2:Bool)(l1 l2:Addr)(xs ys:List V),vs=[.ref l1,.ref l2]/\kQ k1 K H1 l1 xs/\kQ k2 K H1 l2 ys/\R (K0 K k1 k2 l1 l2) H1
theorem EZ {es:List Expr}{kt:Nat}{pt:Pos}{ta:TA}(hg:Gl X "zip")(hm:X.mg "zip" = none)(ha:PA X [a,b] ta)(hs:starEach [a,b] X.env=[(false,eval a X.env),(false,eval b X.env)]:=by rfl)(j0:starEach [b] X.env=[(false,eval b X.env)]:=by rfl):
  PI X (.Tuple es kt pt) (.Call (.Name "zip" p) [a,b] [] pos) (HK X.K ta):=by
 intro aa s σ H R I h;refine Call_ (fT I hg hm Dy (PyProof.Rows.callWith_type1 (bJ (ha pos aa s σ H _ I h) λus s1 ⟨vs,H1,I1,r1,q1⟩=>?_) (by rw[hs,j0]) (by rw[j0];rfl)));obtain⟨k1,k2,l1,l2,xs,ys,rfl,h1,h2,q⟩:=q1;obtain⟨u1,u2,rfl,Lr,Ls⟩:=r1.two;cases Lr
 cases Ls
 obtain⟨its,v1,p1,z1⟩:=h1.vals I1;obtain⟨nH,v2,p2,z2⟩:=h2.vals I1;have Cp:=p1.lt;have CW:=p2.lt;refine vm p1 p2 λh' c1 c2 c3 c4 c5 ck=>?_;have D:ZApart (s1.heap.objs.size+4) (s1.heap.objs.size+2) (s1.heap.objs.size+3) s1.heap.objs.size (s1.heap.objs.size+1):=by
  constructor<;>(intro z;exact absurd z (by first|exact vS (Nat.add_lt_add_left (by decide) _)|exact Nat.ne_of_gt (Nat.add_lt_add_left (by decide) _)|exact vS (Nat.lt_add_of_pos_right (by decide))|exact Nat.ne_of_gt (Nat.lt_add_of_pos_right (by decide))))
 have nf:∀ {l:Addr}(n:Nat),l<s1.heap.objs.size->l≠s1.heap.objs.size+n:=λn hl=>vS (vQ hl (Nat.le_add_right _ n));refine wpAny_pyIter_zip c1 ⟨s1.heap.objs.size+4,[s1.heap.objs.size+4,s1.heap.objs.size+2,s1.heap.objs.size+3,s1.heap.objs.size,s1.heap.objs.size+1],_,_,H1,rfl,I1.kept (t':=s1.toks) ck,
  zn D ⟨nf 4 Cp,nf 3 Cp,nf 0 Cp⟩ ⟨nf 4 CW,nf 3 CW,nf 0 CW,nf 1 CW⟩,⟨c1,c2,⟨_,_,c3⟩,c4,c5⟩,λb hb=>?_,q⟩
 have wx:s1.heap.objs.size<=b:=by
  simp at hb;rcases hb with rfl|rfl|rfl|rfl|rfl
  ·exact Nat.le_add_right _ 4
  ·exact Nat.le_add_right _ 2
  ·exact Nat.le_add_right _ 3
  ·exact vT _
  ·exact Nat.le_add_right _ 1
 exact I1.fpOk wx (I1.hok.fresh wx)
noncomputable def fu (xs ys:List D):List D:=List.zipWith (λx y=>.tup [x,y]) xs ys
@[simp] def xg (fa fb:FE):FA:=λρ=>(fa ρ).bind λx=>(fb ρ).bind λy=>(ib x.1).bind λxs=>(ib y.1).map λys=>fu xs ys
theorem qV {K:Frag}{B:Hp}{v:V}{d:D}{ds:List D}(h:Is K B v d)(e:ib d=some ds):∃k a vs,v=.ref a/\kQ k K B a vs/\IsL K B vs ds:=by
 cases h with
 |tup ht hl=>cases e;exact⟨false,_,_,rfl,ht,hl⟩
 |lst ht hl=>cases e;exact⟨true,_,_,rfl,ht,hl⟩
 |_=>cases e
theorem Fa {H s}(I:Inv X aa σ H s)(h1:kQ k1 X.K N l1 vs)(i1:IsL X.K N vs ds)(h2:kQ k2 X.K N l2 ws)(i2:IsL X.K N ws es):lj X.K (K0 X.K k1 k2 l1 l2) N (fu ds es):=by
 intro i H' sm;have n1:=i1.length;have n2:=i2.length;refine⟨λd ed=>?_,λhl=>⟨vs,ws,h1.same sm,h2.same sm,?_⟩⟩
 ·unfold fu at ed;rw[List.getElem?_zipWith]at ed;cases e1:ds[i]? with
  |none=>rw[e1]at ed;simp at ed
  |some x=>
   cases e2:es[i]? with
   |none=>rw[e1,e2]at ed;simp at ed
   |some y=>
    rw[e1,e2]at ed;simp at ed;subst ed;obtain⟨v,ev,iv⟩:=i1.get e1;obtain⟨w,ew,iw⟩:=i2.get e2;refine⟨⟨vs,ws,v,w,h1.same sm,h2.same sm,ev,ew⟩,λr H2 hy=>?_⟩;obtain⟨T,v',w',rfl,hT,rfl,f1,f2⟩:=hy;have e3:=f1 vs (h1.same sm);have e4:=f2 ws (h2.same sm);rw[ev]at e3;cases e3;rw[ew]at e4;cases e4;have xt:=Ext.laid (o:=.tup [v,w]) sm hT;exact⟨_,xt,.tup (gh.of ay) (.cons (iv.mono xt.bn) (.cons (iw.mono xt.bn) .nil))⟩
 ·unfold fu at hl;rw[List.length_zipWith]at hl;omega
theorem zo {es:List Expr}{kt:Nat}{pt:Pos}{fa fb:FE}(hm:X.mg "zip" = none)(ha:JE X a fa)(hb:JE X b fb)(hg:Gl X "zip":=by rfl)(hs:starEach [a,b] X.env=[(false,eval a X.env),(false,eval b X.env)]:=by rfl)(j0:starEach [b] X.env=[(false,eval b X.env)]:=by rfl):
  JI X (.Tuple es kt pt) (.Call (.Name "zip" p) [a,b] [] pos) (xg fa fb):=by
 intro aa s σ H R I q;refine EZ hg hm (ag ha (ag hb ah j0) (by rw[hs,j0])) hs j0 aa s σ H R I ?_;obtain⟨B,ρ,ds,sB,r,ee,q⟩:=q;obtain⟨x1,ex,ee⟩:=oX ee;obtain⟨y1,ey,ee⟩:=oX ee;obtain⟨xs,Lu,ee⟩:=oX ee;obtain⟨ys,Lv,ee⟩:=oY ee;subst ee;refine⟨B,ρ,[x1.1,y1.1],sB,r,by simp[ac,ai,ex,ey],λvs H1 N1 xt i1=>?_⟩;cases i1 with
 |cons j1 j2=>
  cases j2 with
  |cons j2 j3=>
   cases j3
   obtain⟨k1,l1,us,rfl,s1,m1⟩:=qV j1 Lu;obtain⟨k2,l2,ws,rfl,s2,m2⟩:=qV j2 Lv;exact⟨k1,k2,l1,l2,us,ws,rfl,s1.same xt.nh,s2.same xt.nh,q _ H1 N1 xt (Fa I s1 m1 s2 m2)⟩
end
noncomputable def unown1 (ρ:Env)(i:Nat):Env:=match ρ[i]? with
 |some (some (d,true))=>ρ.set i (some (d,false))
 |_=>ρ
theorem cV.unown1 {K:Frag}{B0 H0 N H:Hp}{σ:St}{ρ:Env}(s:cV K B0 H0 N H σ ρ)(i:Nat):cV K B0 H0 N H σ (unown1 ρ i):=by
 unfold DL.unown1;split
 ·rename_i d hd;obtain⟨a,ob,h1,h2,h3,h4⟩:=s.ow i d hd;have get:∀ {j:Nat}{e:D}{b:Bool},(ρ.set i (some (d,false)))[j]? = some (some (e,b))->(i=j/\e=d/\b=false)∨(i≠j/\ρ[j]? = some (some (e,b))):=λq=>by
   rcases b8 q with⟨z,p⟩|⟨z,p⟩
   ·cases p;exact .inl ⟨z,rfl,rfl⟩
   ·exact .inr ⟨z,p⟩
  have o:∀c,own σ (ρ.set i (some (d,false))) c->own σ ρ c/\c≠a:=λc ⟨j,e,q1,q2⟩=>by
   rcases get q1 with⟨_,_,z⟩|⟨ne,q⟩
   ·cases z
   ·exact⟨⟨j,e,q,q2⟩,λz=>by subst z;exact ne (s.inj i j _ _ _ hd q h1 q2)⟩
  have c:aM (cW N (own σ ρ)) (cW N (own σ (ρ.set i (some (d,false))))):=dD λb u e q=>⟨e,λz=>q (o b z).1⟩;have na:¬own σ (ρ.set i (some (d,false))) a:=λz=>(o a z).2 rfl;refine⟨s.bh,s.tb,s.ext,by rw[List.length_set];exact s.len,λj e q=>?_,λj e q=>?_,λj k b e f q q' z1 z2=>?_⟩
  ·rcases get q with⟨rfl,rfl,_⟩|⟨_,q⟩
   ·exact⟨_,h1,(h4.mono c).is (by rw[bY na];exact h2)⟩
   ·obtain⟨v,k1,k2⟩:=s.sh j e q;exact⟨v,k1,k2.mono c⟩
  ·rcases get q with⟨_,_,z⟩|⟨_,q⟩
   ·cases z
   ·obtain⟨a',o',k1,k2,k3,k4⟩:=s.ow j e q;exact⟨a',o',k1,k2,k3,k4.mono c⟩
  ·rcases get q with⟨_,_,z⟩|⟨_,q⟩
   ·cases z
   ·rcases get q' with⟨_,_,z⟩|⟨_,q'⟩
    ·cases z
    ·exact s.inj j k b e f q q' z1 z2
 ·exact s
@[simp] noncomputable def HL (is:List Nat)(g:FS):FS:=λρ=>g (is.foldl unown1 ρ)
theorem cV.unowns {K:Frag}{B0 H0 N H:Hp}{σ:St}:∀(is:List Nat){ρ:Env},cV K B0 H0 N H σ ρ->cV K B0 H0 N H σ (is.foldl DL.unown1 ρ)
 |[],_,s=>s
 |i::is,_,s=>cV.unowns is (s.unown1 i)
theorem Fb {K:Frag}{is:List Nat}{g:FS}{E:Ends}{σ:St}{H:Hp}(q:mV K (HL is g) E σ H):mV K g E σ H:=by
 obtain⟨B0,H0,ρ,r,⟨N,s⟩,e,p⟩:=q;exact⟨B0,H0,_,r,⟨N,s.unowns is⟩,e,p⟩
theorem Dz {X:Cx}{st:Stmt}{g:FS}(is:List Nat)(h:JS X st g):JS X st (HL is g):=PS.to h λ_ _ _ q=>Fb q
@[simp] noncomputable def fY:FS:=λ_=>none
section
variable {X:Cx}{pos:Pos}
theorem jC {st:Stmt}:JS X st fY:=λaa s σ H E I q=>by
 obtain⟨B0,H0,ρ,r,_,e,_⟩:=q;cases e
end
inductive CRows (K:Frag)(P:Params):List DictEntry->List (Str×D)->Prop where
 |nil:CRows K P [] []
 |tup {x:Str}{t:Tok}{h:Int}{a:Addr}{its:Array Value}{n:Nat}{ni:Array (Option Value)}{ds:List D}{r:List DictEntry}{aG:List (Str×D)}(hh:h=PyData.keyHash P x)
   (l:K.lookup a=some ⟨.type "tuple",none,.seq its n,ni⟩) (f:(decide (its.size<=1000) && gI its.toList ds)=true) (tl:CRows K P r aG):CRows K P (⟨h,.str x t,.ref a⟩::r) ((x,.tup ds)::aG)
 |flat {x:Str}{t:Tok}{h:Int}{u:Value}{d:D}{r:List DictEntry}{aG:List (Str×D)}(hh:h=PyData.keyHash P x) (f:pJ u d=true) (tl:CRows K P r aG):CRows K P (⟨h,.str x t,u⟩::r) ((x,d)::aG)
theorem CRows.lit {K:Frag}{P:Params}:∀ {es:List DictEntry}{aG:List (Str×D)},CRows K P es aG->PySem.W.KeysLit P es
 |_,_,.nil=>trivial
 |_,_,.tup hh _ _ tl=>⟨⟨_,_,rfl,hh⟩,tl.lit⟩
 |_,_,.flat hh _ tl=>⟨⟨_,_,rfl,hh⟩,tl.lit⟩
theorem CRows.find {K:Frag}{P:Params}(y:Str):∀ {es:List DictEntry}{aG:List (Str×D)},CRows K P es aG->match aG.lookup y with
  |none=>es.find? (λe=>Value.isStrOf y e.key)=none
  |some d=>∃e v,es.find? (λe=>Value.isStrOf y e.key)=some e/\aK v e.val/\∀B,Is K B v d
 |_,_,.nil=>rfl
 |_,_,.tup (x:=x) (t:=t) (a:=a) (ds:=ds) hh l f tl=>by
  by_cases e:y=x
  ·subst e;rw[List.lookup_cons_self];rw[vD]at f;obtain⟨vs,r,i⟩:=gJ (K:=K) f.2;exact⟨_,.ref a,List.find?_cons_of_pos (by simp[Value.isStrOf]),rfl,λB=>.tup (.inr ⟨_,_,_,l,rfl,rfl,Nat.le_of_lt (Nat.lt_of_le_of_lt (of_decide_eq_true f.1) (by decide)),r⟩) (i B)⟩
  ·have ih:=tl.find y;rw[List.lookup_cons,beq_eq_false_iff_ne.mpr e];have nf:Value.isStrOf y (Value.str x t)=false:=by
    rw[Bool.eq_false_iff];intro z;obtain⟨t',q⟩:=Value.isStrOf_shape z;injection q with q1;exact e q1.symm
   simp only[List.find?_cons,nf];exact ih
 |_,_,.flat (x:=x) (t:=t) (u:=u) (d:=d) hh f tl=>by
  by_cases e:y=x
  ·subst e;rw[List.lookup_cons_self];obtain⟨v,r1,_⟩:=iF (K:=K) (B:=λ_=>none) f;refine⟨_,v,List.find?_cons_of_pos (by simp[Value.isStrOf]),r1,λB=>?_⟩;obtain⟨v',Lp,i'⟩:=iF (K:=K) (B:=B) f;have:v'=v:=by have z1:=r1.abs;rw[Lp.abs]at z1;exact vK z1
   subst this;exact i'
  ·have ih:=tl.find y;rw[List.lookup_cons,beq_eq_false_iff_ne.mpr e];have nf:Value.isStrOf y (Value.str x t)=false:=by
    rw[Bool.eq_false_iff];intro z;obtain⟨t',q⟩:=Value.isStrOf_shape z;injection q with q1;exact e q1.symm
   simp only[List.find?_cons,nf];exact ih
def jD (K:Frag)(P:Params)(a:Addr)(aG:List (Str×D)):Prop:=∃es n,K.lookup a=some ⟨.type "dict",none,.dict es n,#[]⟩/\CRows K P es.toList aG/\(a == sysModules)=false
theorem const_dict {K:Frag}{P:Params}{y:Str}{a:Addr}{es:Array DictEntry}{n:Nat}{aG:List (Str×D)}(e:nsIn K mainGlobals y=some (some (.ref a)))(l:K.lookup a=some ⟨.type "dict",none,.dict es n,#[]⟩)(r:CRows K P es.toList aG)(s:(a == sysModules)=false):
  ∃a,nsIn K mainGlobals y=some (some (.ref a))/\jD K P a aG:=⟨a,e,es,n,l,r,s⟩
section
variable {X:Cx}{a b e:Expr}{pos:Pos}{x:Str}{p:Pos}
theorem jD.map {aa:List (Addr×Obj)}{σ:St}{H:Hp}{s:Shared}{d:Addr}{aG:List (Str×D)}(I:Inv X aa σ H s)(h:jD X.K X.w.params d aG):∃f:Str->Option Value,s.heap.MapOf (strKind X.prog X.w) d f/\(d == sysModules)=false /\
  ∀y,match aG.lookup y with|none=>f y=none|some dd=>∃u v,f y=some u/\aK v u/\∀B,Is X.K B v dd:=by
 obtain⟨es,n,l,r,sm⟩:=h;refine⟨_,PySem.W.mapOf_K I.kIn l r.lit,sm,λy=>?_⟩;have:=r.find y;have ff:findBy Value.isStrOf es y=(es.toList.find? λe=>Value.isStrOf y e.key).map (·.val):=by
  unfold findBy;obtain⟨es⟩:=es;rw[List.find?_toArray]
 cases hl:aG.lookup y with
 |none=>rw[hl]at this;dsimp only at this ⊢;rw[ff,this];rfl
 |some dd=>
  rw[hl]at this;obtain⟨en,v,e1,e2,e3⟩:=this;exact⟨en.val,v,by rw[ff,e1];rfl,e2,e3⟩
@[simp] noncomputable def fw (aG:List (Str×D)):D->OB
 |.str y=>(aG.lookup y).map λd=>(d,false)
 |_=>none
@[simp] noncomputable def jp (aG:List (Str×D)):D->OB
 |.str y=>some (.bl (!(aG.lookup y).isSome),false)
 |_=>none
theorem lw (h:∃d,X.mg x=some (.ref d)/\jD X.K X.w.params d aG)(hb:JE X b f)(hg:Gl X x:=by rfl)(hd:(x == ("__debug__" : Str))=false:=by decide)(hs:lu b:=by intro _ _;rfl):JE X (.Subscript (.Name x p) b pos) (f1 (fw aG) f):=by
 obtain⟨d,hm,cd⟩:=h;have ix:yA X (λx y H Q=>∃z dd,x=.ref d/\y=.str z/\aG.lookup z=some dd/\∀v,(∀B,Is X.K B v dd)->Q v H):=by
  intro value slice aa s σ H x y v u Q I rx ry q hs;obtain⟨z,dd,rfl,rfl,el,q⟩:=q;cases rx
  obtain⟨t,rfl⟩:=ry;obtain⟨f,hM,sm,hf⟩:=cd.map I;have:=hf z;rw[el]at this;obtain⟨u,v,e1,e2,e3⟩:=this;exact tail_any hM.typeIs slot_dict_getitem.lookup (wpAny_getItem_of (strKind_is X.prog X.w z t) hM e1 ⟨v,H,I.tok _,e2,q v e3⟩) hs
 refine PE.to (yB ix (ls (v:=.ref d) hg hm rfl hd) hb hs) λσ H Q q=>?_;obtain⟨B,ρ,d',bb,sB,r,ee,q⟩:=q;obtain⟨x1,ex,ee⟩:=oX ee;refine⟨B,ρ,x1.1,x1.2,sB,r,ex,λv H1 N1 xt i1 _=>?_⟩;obtain⟨xd,xb⟩:=x1;cases i1<;>try (simp[fw]at ee;done)
 rename_i z _;simp only[fw]at ee;obtain⟨dd,e1,e2⟩:=oY ee;cases e2
 exact⟨z,_,rfl,rfl,e1,λv hv=>(q.into xt).one xt.nh (hv _)⟩
@[simp] noncomputable def dF:List D->OB
 |[.lst ds]=>some (.lst ds,true)
 |[.tup ds]=>some (.lst ds,true)
 |_=>none
@[simp] noncomputable def bH:List D->OB
 |[.lst ds]=>some (.tup ds,false)
 |[.tup ds]=>some (.tup ds,false)
 |_=>none
theorem pK:bG X (.type "list") (yn X.K dF):=by
 refine bG.to p6 λxs H Q q=>?_;obtain⟨B,ds,d,bb,sB,i,ee,q⟩:=q;cases i with
 |nil=>simp[dF]at ee
 |cons i1 i2=>
  cases i2 with
  |cons _ _=>cases i1<;>simp[dF]at ee
  |nil=>
   cases i1<;>try (simp[dF]at ee;done)
   ·rename_i l0 vs es h hl;simp only[dF]at ee;cases ee
    refine⟨_,_,rfl,.inr (aQ sB h),λl hp=>?_⟩;have xt:=Ext.laid (o:=.lst vs) sB hp;exact q _ _ _ xt (.lst (fU.of ay) (hl.mono xt.bn)) λ_=>⟨_,_,_,rfl,rfl,hp,ay,hl.mono xt.bn⟩
   ·rename_i l0 vs es h hl;simp only[dF]at ee;cases ee
    refine⟨_,_,rfl,.inl (sB.seq h),λl hp=>?_⟩;have xt:=Ext.laid (o:=.lst vs) sB hp;exact q _ _ _ xt (.lst (fU.of ay) (hl.mono xt.bn)) λ_=>⟨_,_,_,rfl,rfl,hp,ay,hl.mono xt.bn⟩
theorem fP:bG X (.type "tuple") (yn X.K bH):=by
 refine bG.to nq λxs H Q q=>?_;obtain⟨B,ds,d,bb,sB,i,ee,q⟩:=q;cases i with
 |nil=>simp[bH]at ee
 |cons i1 i2=>
  cases i2 with
  |cons _ _=>cases i1<;>simp[bH]at ee
  |nil=>
   cases i1<;>try (simp[bH]at ee;done)
   ·rename_i l0 vs es h hl;simp only[bH]at ee;cases ee
    exact⟨_,_,rfl,.inr ⟨aQ sB h,q.one sB (.tup h hl)⟩⟩
   ·rename_i l0 vs es h hl;simp only[bH]at ee;cases ee
    refine⟨_,_,rfl,.inl ⟨sB.seq h,λl hp=>?_⟩⟩;have xt:=Ext.laid (o:=.tup vs) sB hp;exact q _ _ _ xt (.tup (gh.of ay) (hl.mono xt.bn)) (by simp)
end
section
variable {X:Cx}{a b e:Expr}{pos:Pos}{x:Str}{p:Pos}
def zp (K:Frag)(n:Nat)(t:Dg):TG:=λv σ H Q=>∃k a xs,v=.ref a/\kQ k K H a xs/\xs.length=n/\t xs σ H Q
theorem Fc (hc:X.calm=true)(h:qv X es t)(hn:(assignEach es X.env).length=n:=by rfl)(lg:(assignEach es X.env).findIdx? (·.1)=none:=by rfl):PG X (.Tuple es kt pos) (zp X.K n t):=by
 intro aa s σ H v u Q I r hw;obtain⟨k,l,xs,rfl,hq,hl,hw⟩:=hw;cases r
 cases k with
 |false=>
  obtain⟨its,rv,ht,hz⟩:=I.tuple hq;refine assign_Tuple_tuple (I.ok.hd hc) ht (by simp[hn,←hl,rv.length]) lg λh' hx=>?_;have I1:Inv X aa σ H { s with heap:=h' }:=I.kept (t':=s.toks) λb o e=>hx b o (vS (vX e)) e;exact h aa _ σ H xs _ Q I1 (by simpa using rv) hw
 |true=>
  obtain⟨its,rv,ht,hz⟩:=I.list hq;rw[assign_Tuple];refine wX (wpAny_standAt ?_);unfold unpack;have hsz:(assignEach es X.env).length=its.toArray.size:=by simp[hn,←hl,rv.length]
  rw[hsz,lg];refine wX (wpAny_holding (PySem.W.kun_itemsOf (I.ok.hd hc) ht.isList λh' hx=>?_));have I1:Inv X aa σ H { s with heap:=h' }:=I.kept (t':=s.toks) λb o e=>hx b o (vS (vX e)) e;exact h aa _ σ H xs _ Q I1 (by simpa using rv) hw
@[simp] def vo (is:List Nat)(f:FE):FS:=λρ=>(f ρ).bind λx=>(ib x.1).bind λds=>(dr is ds (if aS ds=true then ρ else unown ρ)).map .nx
theorem zq {K:Frag}{is:List Nat}{f:FE}{E:Ends}{σ:St}{H:Hp}(q:mV K (vo is f) E σ H):wC (tD K f) (zp K is.length (jm is)) E σ H:=by
 obtain⟨B0,H0,ρ,r,⟨N,s⟩,e,p⟩:=q;obtain⟨x,ex,e⟩:=oX e;obtain⟨ds,es,e⟩:=oX e;obtain⟨ρ',eρ,e⟩:=oY e;subst e;refine⟨N,ρ,x.1,x.2,s.ext.nh,s.rep,ex,λv H1 N1 x1 i1 _=>?_⟩;obtain⟨k,a,vs,rfl,sq,il⟩:=qV i1 es;have s1:=s.grow x1;refine⟨k,a,vs,rfl,sq.same x1.nh,by rw[il.length];exact iH eρ,?_⟩;by_cases hn:aS ds=true
 ·rw[if_pos hn]at eρ;exact iG s1 (s1.flats il hn) eρ λσ' s'=>p σ' H1 ⟨N1,s'⟩
 ·rw[if_neg hn]at eρ;exact iG s1.unown (il.mono λa o e=>by rw[bY kr];exact e) eρ λσ' s'=>p σ' H1 ⟨N1,s'⟩
theorem Cd (he:JE X e f)(hg:PG X (.Tuple es kt p2) (zp X.K is.length (jm is)))(hs:swapsWithSole [.Tuple es kt p2] e pos.line X.env=pure false:=by rfl)(hw:swappedStores [.Tuple es kt p2] e X.env=pure none:=by rfl)
  (h1:(assignEach [.Tuple es kt p2] X.env).map (·.2)=[assign (.Tuple es kt p2) X.env]:=by rfl):JS X (.Assign [.Tuple es kt p2] e pos) (vo is f):=PS.to (yv he hg hs hw h1) λ_ _ _ q=>zq q
@[simp] def zr (i:Nat)(fk fv:FE):FS:=λρ=>match ρ[i]? with
 |some (some (.lst ds,true))=>(fv ρ).bind λv=>(fk ρ).bind λk=>match k.1 with
  |.int j=>(y9 ds.length j).bind λn=>if bd v.1=true then some (.nx (ρ.set i (some (.lst (ds.set n v.1),true))))else none
  |_=>none
 |_=>none
theorem Fd (hv:JE X e fv)(hk:JE X k fk)(hN:X.N[i]? = some y:=by rfl)(Lx:Bd X.env.scope y:=by first|exact Or.inl rfl|exact Or.inr (Or.inl rfl)|exact Or.inr (Or.inr rfl))(hd:(y == ("__debug__" : Str))=false:=by decide)
  (lB:(y == ("__classdict__" : Str))=false:=by decide)
  (ha:∀v,assign (.Subscript (.Name y py) k pt) X.env v=(do
   let ov ←holding [v] (eval (.Name y py) X.env)
   let iv ←holding [v,ov] (eval k X.env)
   standAt pt
   holding [v,ov,iv] (setItem ov iv v)
   release [v,ov,iv] []):=by intro _;rfl)
  (hs:swapsWithSole [.Subscript (.Name y py) k pt] e pos.line X.env=pure false:=by rfl) (hw:swappedStores [.Subscript (.Name y py) k pt] e X.env=pure none:=by rfl)
  (h1:(assignEach [.Subscript (.Name y py) k pt] X.env).map (·.2)=[assign (.Subscript (.Name y py) k pt) X.env]:=by rfl):JS X (.Assign [.Subscript (.Name y py) k pt] e pos) (zr i fk fv):=by
 refine PS.to (yv hv (El (lF hN Lx hd lB) hk yD ha) hs hw h1) λE σ H q=>?_;obtain⟨B0,H0,ρ,r,⟨N,s⟩,ee,p⟩:=q;unfold zr at ee;split at ee
 ·rename_i ds ei;obtain⟨v,ev,ee⟩:=oX ee;obtain⟨kk,ek,ee⟩:=oX ee;obtain⟨kd,kb⟩:=kk;cases kd with
  |int j=>
   dsimp only at ee;obtain⟨n,en,ee⟩:=oX ee;split at ee
   ·rename_i hn;cases ee
    refine⟨N,ρ,v.1,v.2,s.ext.nh,s.rep,ev,λv1 H1 N1 x1 i1 _=>?_⟩;have s1:=s.grow x1;obtain⟨l,vs,AD,z,h1,h2,h3,h4⟩:=s1.owL i _ ei;cases z
    refine⟨_,h1,N1,ρ,_,_,s1.ext.nh,s1.rep,ek,λkv H2 N2 x2 i2 _=>?_⟩;cases i2
    have s2:=s1.grow x2;obtain⟨l',J5,AD,z,k1,k2,k3,k4⟩:=s2.owL i _ ei;cases z
    rw[h1]at k1;cases k1;exact⟨l,J5,j,n,rfl,rfl,s2.ext.nh _ _ k2,by rw[k4.length];exact en,p σ _ ⟨_,s2.write ei h1 (IsL.set (s2.flat (i1.mono x2.bn) hn) n k4)⟩⟩
   ·cases ee
  |_=>cases ee
 ·cases ee
@[simp] def qW (i:Nat)(f:FE):FS:=λρ=>match ρ[i]? with
 |some (some (.lst ds,true))=>(f ρ).bind λx=>match x.1 with
  |.lst es=>if x.2=true/\aS es=true/\ds.length+es.length<=sizeLine then some (.nx (ρ.set i (some (.lst (ds++es),true))))else none
  |_=>none
 |_=>none
theorem zu (he:JE X e f)(hN:X.N[i]? = some y:=by rfl)(hv:Bd X.env.scope y:=by first|exact Or.inl rfl|exact Or.inr (Or.inl rfl)|exact Or.inr (Or.inr rfl))(hd:(y == ("__debug__" : Str))=false:=by decide)
  (lB:(y == ("__classdict__" : Str))=false:=by decide)
  (gD:attributeBase (.Name y py) "extend" X.env (eval (.Name y py) X.env)=eval (.Name y py) X.env:=by rfl)
  (qr:((backTo ce (starEach [e] X.env)).all (λx=>!x.1) && (backToKw ce (keywordEach [] X.env)).all (λx=>x.1.isSome)
   && decide ([e].length+([]:List Keyword).length+(if([]:List Keyword).isEmpty then 0 else 1)<30))=true:=by rfl)
  (gE:(dq.endLine == ce.line)=true:=by rfl) (hs:starEach [e] X.env=[(false,eval e X.env)]:=by rfl) (FP:swapsWith (.Call (.Attribute (.Name y py) "extend" dq) [e] [] ce) none pos.line X.env=pure false:=by rfl):
  JS X (.Expr (.Call (.Attribute (.Name y py) "extend" dq) [e] [] ce) pos) (qW i f):=by
 refine PS.to (uy (u9 PySem.F.plainAttrs_list PySem.F.slot_list_extend PySem.F.type_list_extend wN (lF hN hv hd lB) (eN he gG hs) gD qr gE hs rfl) FP) λE σ H q=>?_;obtain⟨B0,H0,ρ,r,⟨N,s⟩,ee,p⟩:=q;unfold qW at ee;split at ee
 ·rename_i ds ei;obtain⟨v,ev,ee⟩:=oX ee;obtain⟨vd,vb⟩:=v;cases vd with
  |lst es=>
   dsimp only at ee;split at ee
   ·rename_i hc;cases ee
    obtain⟨l,vs,AD,z,h1,h2,h3,h4⟩:=s.owL i _ ei;cases z
    refine⟨_,h1,.inl ⟨rfl,vs,fU.of (s.ext.nh _ _ h2)⟩,N,ρ,_,_,s.ext.nh,s.rep,ev,λv1 H1 N1 x1 i1 f1=>?_⟩;obtain⟨l2,ws,AT,rfl,z,g1,g2,g3⟩:=f1 hc.1;cases z
    have s1:=s.grow x1;obtain⟨l',J5,AD,z,k1,k2,_,k4⟩:=s1.owL i _ ei;cases z
    rw[h1]at k1;cases k1;exact⟨l,l2,J5,ws,rfl,rfl,s1.ext.nh _ _ k2,x1.nh _ _ g2,by rw[k4.length,g3.length];exact hc.2.2,p σ _ ⟨_,s1.write ei h1 (k4.append (s1.flats g3 hc.2.1))⟩⟩
   ·cases ee
  |_=>cases ee
 ·cases ee
end
open AutoSeq1 (wpAny_loadPart')
set_option maxRecDepth 100000
section
variable {X:Cx}{a b e:Expr}{pos:Pos}{p:Pos}
theorem qX:bootBuiltins "enumerate" = some (.type "enumerate"):=by decide +kernel
noncomputable def vp (ds:List D):List D:=ds.mapIdx λi d=>.tup [.int i,d]
end
end DL
namespace DL
open PySem PySem.Spec PyProof.Rows
theorem xh (t:SetTable)(es:Array (Int×Value))(n:Nat):(relayAll t es n).2.1.led=t.led:=by
 unfold relayAll;split
 ·rename_i t' order h;unfold SetTable.relaid SetTable.laid at h;obtain⟨ow,_,h⟩:=oX h;cases h
  dsimp only;split<;>rfl
 ·rfl
theorem qY (t:SetTable)(es:Array (Int×Value))(n:Nat)(hp:t.plain=false):(relayAll t es n).2.1.plain=false:=by
 unfold relayAll;split
 ·rename_i t' order h;unfold SetTable.relaid SetTable.laid at h;obtain⟨ow,_,h⟩:=oX h;cases h
  dsimp only;split
  ·exact hp
  ·rfl
 ·rfl
theorem Ce (t:SetTable)(es:Array (Int×Value))(h:Int)(x:Value):(layNew t es h x).2.1.led=t.led:=by
 unfold layNew;split
 ·dsimp only[SetTable.put,SetTable.orStandIn];repeat' (first|rfl|split)
 ·rfl
structure TabT (w:World)(es:Array (Int×Value))(t:SetTable):Prop where
 fits:t.fits es.size=true
 led:t.led = !w.params.followText "set-order"
 plain:es.size≠0->t.plain=false
def fL (prog:Program)(w:World)(h:Heap)(a:Addr)(ts:List Str):Prop :=
 ∃o es ep t,h.get? a=some o/\o.ExactSet/\o.data=.set es ep t/\ElemsOf (PySem.strKind prog w) es.toList/\(es.toList.map (λe=>strOf e.2)).Perm ts/\ts.Nodup/\ts.length<scanBound/\TabT w es t
noncomputable def gK (ts:List Str)(x:Str):List Str:=if x∈ts then ts else ts++[x]
theorem zv (ts:List Str)(x:Str):(gK ts x).length<=ts.length+1:=by unfold gK;split<;>simp
theorem qZ (h:Value.isStrOf k v=true):strOf v=k:=by obtain⟨t,rfl⟩:=Value.isStrOf_shape h;rfl
section
variable {prog:Program}{w:World}{A:Around}{E:Value->Shared->Prop}{s:Shared}
theorem og {es:Array (Int×Value)}{ts:List Str}(yh:ElemsOf (PySem.strKind prog w) es.toList)(hp:(es.toList.map (λe=>strOf e.2)).Perm ts)(k:Str):k∈ts ↔ ∃e∈es.toList,(PySem.strKind prog w).is k e.2=true:=by
 rw[←hp.mem_iff,List.mem_map];constructor
 ·rintro⟨e,he,rfl⟩;obtain⟨⟨k',hk,_⟩,_⟩:=yh e he;have AG:Value.isStrOf k' e.2=true:=hk;refine⟨e,he,?_⟩;show Value.isStrOf (strOf e.2) e.2=true;rw[qZ AG];exact AG
 ·rintro⟨e,he,hk⟩;exact⟨e,he,qZ hk⟩
theorem oh {h:Heap}{a:Addr}{o:Obj}{es:Array (Int×Value)}{ep:Nat}{t:SetTable}(ho:h.get? a=some o)(hd:o.data=.set es ep t)(AT:Array (Int×Value))(t':SetTable):
  (h.update a (Obj.putSet AT t')).get? a=some { o with data:=.set AT (ep+1) t' }:=by
 have:=Heap.get?_update_self (Obj.putSet AT t') ho (by rw[putSet_of AT t' hd];rfl);rw[putSet_of AT t' hd]at this;exact this
theorem ra {g:Bool->Sem Unit}(hg:∀(b:Bool)(s₁:Shared)(Q':Unit->Shared->Prop),Q' () s₁->wpAny (model prog w) A (g b) Q' E s₁)
  {a:Addr}{o:Obj}{es:Array (Int×Value)}{ep:Nat}{t:SetTable}(ho:s.heap.get? a=some o) (AH:o.ExactSet) (hd:o.data=.set es ep t)
  {ki:Array (Int×Value)}{t2:SetTable}{ts:List Str}(AI:ElemsOf (PySem.strKind prog w) ki.toList) (G1:(ki.toList.map (λe=>strOf e.2)).Perm ts) (nd:ts.Nodup)
  (AZ:ts.length<scanBound) (ON:t2.fits ki.size=true) (KY:t2.led = !w.params.followText "set-order") (ng:t2.plain=false) {sK:Bool}{R:Option Bool->Shared->Prop}
  (h:∀h',Heap.SameBut a s.heap h'->fL prog w h' a ts->R (some true) { s with heap:=h' }):
  wpAny (model prog w) A (do
    storeSet a ki t2
    if(!sK && t2.tooFull)=true then do
      g (relayAll t2 ki (SetTable.grown ki.size)).2.2
      storeSet a (relayAll t2 ki (SetTable.grown ki.size)).1 (relayAll t2 ki (SetTable.grown ki.size)).2.1
      pure (some true)
     else pure (some true)) R E s:=by
 have MS:ki.size=ts.length:=by rw[←G1.length_eq,vI,vG]
 refine wX (wpAny_storeSet_of ho hd ?_ (fits_of_scanBound (by rw[MS];exact AZ)));have Ly:=oh ho hd ki t2;have Jb:=vW s.heap a (Obj.putSet ki t2);split
 ·have hp:=relayAll_perm t2 ki (SetTable.grown ki.size);have Lz:=relayAll_fits t2 ki (SetTable.grown ki.size);have wx:=xh t2 ki (SetTable.grown ki.size);have L1:=qY t2 ki (SetTable.grown ki.size) ng;generalize hRl:relayAll t2 ki (SetTable.grown ki.size)=Rl at hp Lz wx L1 ⊢;obtain⟨JG,t3,MT⟩:=Rl;dsimp only at hp Lz wx L1 ⊢;have L3:ElemsOf (PySem.strKind prog w) JG.toList:=AI.perm hp;have hsz:JG.size=ki.size:=by rw[←vG,hp.length_eq,vG]
  refine wX (hg _ _ _ ?_);refine wX (wpAny_storeSet_of Ly rfl ?_ (fits_of_scanBound (by rw[hsz,MS];exact AZ)));have Gz:=oh Ly rfl JG t3;exact wY (h _ (Jb.trans (vW _ a _)) ⟨_,JG,_,t3,Gz,AH,rfl,L3,(hp.map _).trans G1,nd,AZ,Lz,wx.trans KY,λ_=>L1⟩)
 ·exact wY (h _ Jb ⟨_,ki,_,t2,Ly,AH,rfl,AI,G1,nd,AZ,ON,KY,λ_=>ng⟩)
theorem tF {a:Addr}{ts:List Str}{k:Str}{tk:Tok}{Q:Bool->Shared->Prop}(hS:fL prog w s.heap a ts)(Jc:ts.length+1<scanBound)
  (h:∀b h',Heap.SameBut a s.heap h'->fL prog w h' a (gK ts k)->Q b { s with heap:=h' }):
  wpAny (model prog w) A (setAddHashed a (.str k tk) ((PySem.strKind prog w).hash k)) Q E s:=by
 have hS0:=hS;obtain⟨o,es,ep,t,ho,AH,hd,yh,qu,nd,hb,hf,CY,ng⟩:=hS;have CP:(PySem.strKind prog w).is k (.str k tk)=true:=strKind_is prog w k tk;have sz:es.size=ts.length:=by rw[←qu.length_eq,vI,vG]
 unfold setAddHashed setAddHashedIn;refine wpAny_holding (wX (wpAny_setState_of ho hd hf ?_));dsimp only;rw[byScan_of (x:=.str k tk) rfl (by rw[sz];exact hb) yh];simp only[↓reduceIte];unfold setAddByScan;refine wX ?_;refine wX (wpAny_rule ?_);refine wX (wpAny_setScan_of CP ho hd hf yh ?_);cases hr:List.findIdx? (λe=>(PySem.strKind prog w).is k e.2) es.toList with
 |some j=>
  dsimp only;obtain⟨hj,OO,_⟩:=List.findIdx?_eq_some_iff_getElem.mp hr;have hm:k∈ts:=(og yh qu k).mpr ⟨es.toList[j],List.getElem_mem hj,OO⟩;refine wY (wY ?_);have e:gK ts k=ts:=by unfold gK;rw[if_pos hm]
  exact h false s.heap (Heap.SameBut.refl a s.heap) (by rw[e];exact hS0)
 |none=>
  dsimp only;have hm:k∉ts:=λz=>by
   obtain⟨e,he,hp⟩:=(og yh qu k).mp z;have:=List.findIdx?_eq_none_iff.mp hr e he;rw[hp]at this;exact Bool.noConfusion this
  have ea:gK ts k=ts++[k]:=by unfold gK;rw[if_neg hm]
  have OP:∀(b:Bool){s₁:Shared}{Q':Unit->Shared->Prop},Q' () s₁->wpAny (model prog w) A (match b with|true=>rule "set.scan.the-table-gave-way" | false=>pure ()) Q' E s₁ :=
   λb s₁ Q' hq=>by cases b<;>first|exact wY hq|exact wpAny_rule hq
  have fJ:=layNew_perm t es ((PySem.strKind prog w).hash k) (.str k tk);have wy:=layNew_fits t es ((PySem.strKind prog w).hash k) (.str k tk);have FU:=Ce t es ((PySem.strKind prog w).hash k) (.str k tk);generalize hL:layNew t es ((PySem.strKind prog w).hash k) (.str k tk)=L at fJ wy FU ⊢;obtain⟨ki,t1,sK,L4⟩:=L;dsimp only at fJ wy FU ⊢;rw[Array.toList_push]at fJ;have AI:ElemsOf (PySem.strKind prog w) ki.toList:=(yh.push CP rfl).perm fJ;have G1:(ki.toList.map (λe=>strOf e.2)).Perm (ts++[k]):=(fJ.map _).trans (by rw[uX];exact qu.append_right _);have MU:(ts++[k]).Nodup:=by
   rw[List.nodup_append];refine⟨nd,by simp,λx hx y hy=>?_⟩;rw[List.mem_singleton]at hy;subst hy;exact λz=>hm (z ▸ hx)
  have AZ:(ts++[k]).length<scanBound:=by rw[vA];exact Jc
  refine wX (OP _ ?_);have Jd:∀h',Heap.SameBut a s.heap h'->fL prog w h' a (ts++[k])->Q true { s with heap:=h' }:=λh' hsb AJ=>h true h' hsb (by rw[ea];exact AJ);split
  ·refine wX ?_;rw[hashByValue_scannable 8 (x:=.str k tk) rfl];refine wY ?_;refine ra ?_ ho AH hd AI G1 MU AZ ?_ ?_ ?_ ?_
   ·intro b s₁ Q' hq;cases b<;>first|exact wY hq|exact wpAny_rule hq
   ·exact SetTable.fits_plain_off wy
   ·exact FU.trans CY
   ·rfl
   ·intro h' hsb AJ;dsimp only;exact wY (Jd h' hsb AJ)
  ·rename_i hnp;refine wX (wY ?_);simp only[↓reduceIte];refine ra ?_ ho AH hd AI G1 MU AZ wy (FU.trans CY) (by simpa using hnp) ?_
   ·intro b s₁ Q' hq;cases b<;>first|exact wY hq|exact wpAny_rule hq
   ·intro h' hsb AJ;dsimp only;exact wY (Jd h' hsb AJ)
end
noncomputable def fM (ss:List Str):List Str:=ss.foldl gK []
theorem tG (h:ts.Nodup)(x:Str):(gK ts x).Nodup:=by
 unfold gK;split
 ·exact h
 ·rename_i hm;rw[List.nodup_append];refine⟨h,by simp,λy hy z hz=>?_⟩;rw[List.mem_singleton]at hz;subst hz;exact λe=>hm (e ▸ hy)
theorem zw:y∈gK ts x↔y∈ts∨y=x:=by
 unfold gK;split
 ·rename_i hm;exact⟨.inl,λz=>z.elim id λe=>e ▸ hm⟩
 ·simp
theorem pL (ss:List Str):∀ts:List Str,(ss.foldl gK ts).length<=ts.length+ss.length:=by
 induction ss with
 |nil=>intro ts;simp
 |cons x r ih=>intro ts;rw[List.foldl_cons];have:=ih (gK ts x);have:=zv ts x;simp only[vE];omega
theorem ma (ss:List Str):(fM ss).length<=ss.length:=by have:=pL ss [];simpa [fM]using this
theorem xi (ss:List Str)(x:Str):fM (ss++[x])=gK (fM ss) x:=by unfold fM;rw[List.foldl_append];rfl
theorem StrsAre.at:∀ {vs:List Value}{ss:List Str},StrsAre vs ss->∀(i:Nat)(v:Value),vs[i]? = some v->∃x t,v=.str x t/\ss[i]? = some x
 |_,_,.nil,i,v,h=>by simp at h
 |_,_,.cons x t hr,0,v,h=>by simp at h;exact⟨x,t,h.symm,rfl⟩
 |_,_,.cons x t hr,i+1,v,h=>by
  simp only[List.getElem?_cons_succ]at h;exact StrsAre.at hr i v h
theorem fL.at (x:fL prog w h a ts)(k:∀o,h.get? a=some o->h'.get? a=some o):fL prog w h' a ts:=by
 obtain⟨o,es,ep,t,ho,r⟩:=x;exact⟨o,es,ep,t,k o ho,r⟩
section
variable {prog:Program}{w:World}{A:Around}{R:Result->Shared->Prop}{I:Addr}{fp wr:List Addr}{G:Array GenState->Array GenState->Prop}{n:Nat}{P:Nat->Value->Prop}{St:Nat->Shared->Prop}
theorem pO (W:WalksS prog w A.in1 I fp wr G n P St)(S:Addr)(wz:S∉fp)(ss:List Str)(hn:ss.length=n)
  (FV:∀i v,P i v->∃x t,v=.str x t/\ss[i]? = some x) (hb:n+1<scanBound):
  ∀(k i:Nat)(s:Shared),n - i=k->i<=n->St i s->fL prog w s.heap S (fM (ss.take i)) ->
   (∀s',Moved (S::wr) G s s'->fL prog w s'.heap S (fM ss)->R (.ok (.ret .none)) s') ->
   codeAny (model prog w) A (.builtin "set.update.loop" ⟨[.ref S,.ref I],[]⟩) R s:=by
 have MV:S∉wr:=λh=>wz (W.sub _ h);have AF:∀b∈wr,b∈S::wr:=λb hb=>mZ _ hb;intro k;induction k with
 |zero=>
  intro i s hk hi lg hS hR;have yi:i=n:=by omega
  subst yi;refine codeAny_builtin PyProof.Rows.F.entry_set_update_loop ?_;rw[Around.under_plainId PyProof.Rows.F.plain_set_update_loop _];show wpAny _ A.in1 (pyNext (.ref I)>>=_) _ _ s;refine wX (W.done s _ _ lg λs' hm=>?_);show wpAny _ A.in1 (ret Value.none) _ _ s';refine wY (hR s' (hm.mono AF) ?_);rw[List.take_of_length_le (by omega)]at hS;exact hS.at λo e=>hm.heap S _ MV e
 |succ k ih=>
  intro i s hk hi lg hS hR;have gi:i<n:=by omega
  refine codeAny_builtin PyProof.Rows.F.entry_set_update_loop ?_;rw[Around.under_plainId PyProof.Rows.F.plain_set_update_loop _];show wpAny _ A.in1 (pyNext (.ref I)>>=_) _ _ s;refine wX (W.item i s _ _ gi lg λv s' hP hst' hm=>?_);obtain⟨x,t,rfl,hx⟩:=FV i v hP;have AJ:fL prog w s'.heap S (fM (ss.take i)):=hS.at λo e=>hm.heap S _ MV e;show wpAny _ A.in1 (holding [Value.str x t] (setAdd S (.str x t))>>=_) _ _ s';refine wX (wpAny_holding ?_);unfold setAdd;refine wpAny_holding ?_;refine wX ((PySem.strKind prog w).pyHash (k:=x) (strKind_is prog w x t) ?_);have hl:(fM (ss.take i)).length+1<scanBound:=by have:=ma (ss.take i);rw[List.length_take]at this;omega
  refine tF (s:={ s' with toks:=s'.toks+1 }) AJ hl λb h' hsb DN=>?_;have JH:fL prog w h' S (fM (ss.take (i+1))):=by
   rw[List.take_add_one,hx,Option.toList_some,xi];exact DN
  refine wY ⟨plainId_quiet PyProof.Rows.F.plain_set_update_loop _,ih (i+1) _ (by omega) gi (W.frame _ s' _ _ hst' (Nat.le_succ _) λb hb o e=>?_) JH λI0 hm'' hS''=>?_⟩
  ·rw[hsb.2 b (λh:b=S=>wz (by rw[←h];exact hb))];exact e
  ·refine hR I0 (Moved.trans W.gtrans ((hm.mono AF).then_heap (Nat.le_succ _) λb o hb e=>?_) hm'') hS'';rw[hsb.2 b (λh:b=S=>hb (by rw[h];exact mX))];exact e
end
section
variable {prog:Program}{w:World}{A:Around}{E:Value->Shared->Prop}{s:Shared}
noncomputable abbrev di (w:World):Obj:={ cls:=.type "set",dict:=none,data:=.set #[] 0 (.fresh 0 0 (!w.params.followText "set-order")) }
theorem rb (a:Value) 
  (h:Q₁ (.ref s.heap.objs.size) { s with heap:=s.heap.push (di w) }):
  codeAny (model prog w) A (.call (.builtin "set.__new__") ⟨[.type "set",a],[]⟩) (wants Q₁ E) s:=by
 refine codeAny_of_tree ?_;show wpAny _ A.in1 (do checkBuiltinCall "set.__new__" ⟨[.type "set",a],[]⟩;again (.builtin "set.__new__" ⟨[.type "set",a],[]⟩)) _ _ s;refine wX (wpAny_of_eq (PySem.F.newCall_set_1 a) (wY ⟨plainId_quiet PySem.F.plain_set_new _,codeAny_builtin PySem.F.entry_set_new ?_⟩));rw[Around.under_plainId PySem.F.plain_set_new _];unfold Builtin.«set.__new__» Builtin.Frozenset.newClass;have AF:=sub_set_self;obtain⟨hp,g,d,tk,os⟩:=s;dsimp only;wp_walk;refine wpAny_askSetting (wY ?_);dsimp only;simp only[newObj];refine wX (wpAny_alloc (wY ?_));exact wY h
set_option maxHeartbeats 3200000 in
theorem md 
  (hh:A.handled=none) (hl:s.heap.IsList l au) (hi:StrsAre au.toList ss) (hb:au.size+1<scanBound)
  (h:∀(h':Heap)(tk:Nat),fL prog w h' s.heap.objs.size (fM ss) ->
   (∀b o,b<s.heap.objs.size->s.heap.get? b=some o->h'.get? b=some o)->Q (.ref s.heap.objs.size) { s with heap:=h',toks:=tk }):
  wpAny (model prog w) A (call (.type "set") [.ref l]) Q E s:=by
 obtain⟨c,tl,OQ⟩:=PySem.F.called_set.mro;have MW:=PySem.F.called_set.made;have AF:=PySem.F.called_set.sub;refine wpAny_call (codeAny_of_tree ?_);show wpAny _ _ (callAny (.type "set") _) _ _ _;refine wY ⟨Code.quiet_builtin _ (by decide +kernel),codeAny_builtin PySem.F.entry_type_call ?_⟩;rw[Around.under_plain (weight_type_call_type "set" [.ref l] []) rfl];have h1:=PySem.F.called_set.notType;have h2:=PySem.F.called_set.canCreate;have Qv:=PySem.F.typeCall_set_1 (.ref l);have bD:ss.length=au.size:=by have:=hi.strs;rw[←this,vI,vG]
 repeat (any_goals (first|assumption|wp_step))
 refine codeAny_mono (rb (.ref l) (E:=E) (Q₁:=λobj s₁=>obj=.ref s.heap.objs.size/\s₁={ s with heap:=s.heap.push (di w) }) ⟨rfl,rfl⟩) λr s₁ hr=>?_;cases r with
 |error e=>exact hr
 |ok fl=>
  cases fl with
  |ret obj=>
   obtain⟨rfl,rfl⟩:=hr;have hS:(s.heap.push (di w)).get? s.heap.objs.size=some (di w):=vY _ rfl;have hT:Shared.TypeIs { s with heap:=s.heap.push (di w) } (.ref s.heap.objs.size) "set":=⟨_,hS,rfl⟩;have Qw:=PySem.F.called_set.init.lookup;have Qx:=PySem.F.called_set.init.bind (.ref s.heap.objs.size);repeat (any_goals (first|assumption|wp_step))
   refine codeAny_mono (codeAny_call_builtin (R:=wants (λr s₂=>r=.none/\∃h' tk,s₂={ s with heap:=h',toks:=tk } /\
     fL prog w h' s.heap.objs.size (fM ss) /\
     (∀b o,b<s.heap.objs.size->s.heap.get? b=some o->h'.get? b=some o)) E) PySem.F.called_set.init.plain PySem.F.entry_set_init (check_set_init_1 hT ?_)) λr₂ s₂ hr₂=>?_
   ·obtain⟨ol,MX,MY,nl,JJ⟩:=hl;obtain⟨OR,Je,MZ,FW⟩:=ol;simp only at MY JJ;subst MY;subst JJ;have L6:(s.heap.push (di w)).get? l=some { cls:=.type "list",dict:=Je,data:=.seq au nl,slots:=FW }:=vZ _ MX;have OS:=PySem.F.sub_list_set;have OT:=PySem.F.sub_list_frozenset;have yg:(Value.type "list" == Value.type "dict")=false:=by decide
    have FU:(s.heap.push (di w)).IsList l au:=⟨_,L6,rfl,nl,rfl⟩;unfold Builtin.«set.__init__» noKeywords Builtin.Frozenset.updateFrom;generalize hPI:pyIter=PI;wp_walk;subst hPI;refine wpAny_pyIter_list FU ?_;refine wX (wpAny_runValue ?_);have Na:l<s.heap.objs.size:=vX MX;have OU:A.in1.in1.in1.handled=none:=by simp[hh]
    have L7:l≠(s.heap.push (di w)).objs.size:=by
     rw[Heap.size_push];exact vS (Nat.lt_succ_of_lt Na)
    have wz:s.heap.objs.size∉[(s.heap.push (di w)).objs.size,l]:=by
     rw[Heap.size_push];simp only[List.mem_cons,List.mem_singleton,List.not_mem_nil,or_false,not_or];exact⟨vS (Nat.lt_succ_self _),Nat.ne_of_gt Na⟩
    have FV:∀(i:Nat)(v:Value),au[i]? = some v->∃x t,v=.str x t/\ss[i]? = some x:=λi v hv=>
     StrsAre.at hi i v (by rw[Array.getElem?_toList];exact hv)
    refine pO ((Walks.list OU _ l L7 au).toS) s.heap.objs.size
     wz ss bD FV hb (au.size - 0) 0 _ (by omega) (uM _)
     ⟨⟨_,vY _ rfl,rfl,rfl⟩,(FU.push _)⟩ ?hS0 ?hR
    case hS0=>
     have CZ:((s.heap.push (di w)).push { cls:=.type "list_iterator",data:=.fields #[.ref l,.int 0 0] }).get? s.heap.objs.size
       = some (di w):=vZ _ hS
     exact⟨_,#[],0,_,CZ,⟨rfl,rfl,rfl⟩,rfl,λe he=>by simp at he,List.Perm.refl _,List.nodup_nil,(by show(0:Nat)<scanBound;decide),rfl,rfl,λz=>absurd rfl z⟩
    case hR=>
     intro s' hm AJ
     obtain⟨h',g',d',OV,KW⟩:=s'
     have eg:g'=s.gens:=hm.gens
     have ed:d'=s.drawn:=hm.drawn
     have eo:KW=s.os:=hm.os
     subst eg;subst ed;subst eo
     show wpAny _ _ _ _ _ _
     refine wY ?_
     show wpAny _ _ (ret Value.none) _ _ _
     refine wY ⟨rfl,h',OV,rfl,AJ,λb o hb e=>?_⟩
     have AZ:b≠s.heap.objs.size:=vS hb
     have Nb:b≠(s.heap.push (di w)).objs.size:=by
      rw[Heap.size_push];exact vS (Nat.lt_succ_of_lt hb)
     exact hm.heap b o (by simp only[List.mem_cons,List.mem_singleton,List.not_mem_nil,or_false,not_or];exact⟨AZ,Nb⟩) (vZ _ (vZ _ e))
   ·cases r₂ with
    |error e=>exact hr₂
    |ok fl₂=>
     cases fl₂ with
     |ret r=>
      obtain⟨rfl,h',tk,rfl,AJ,AG⟩:=hr₂;repeat (any_goals (first|assumption|wp_step))
      exact h _ _ AJ AG
     |_=>exact hr₂.elim
  |_=>exact hr.elim
end
open Sem (wp)
section
variable {M:Model}{A:Around}{E:Value->Shared->Prop}{s:Shared}
theorem Cf (hn:n≠0)(h:∀k d,k<n->Q k { s with drawn:=d }):wpAny M A (choose src n) Q E s:=by
 intro Γ p hG;unfold choose;rw[Sem.wp_choose];refine⟨hn,?_⟩;have:=h _ (s.drawn.bump src) (Nat.mod_lt (M.w.draws src (s.drawn.get src)) (Nat.pos_of_ne_zero hn));simpa using this
end
theorem jE {α:Type}:∀(l:List α)(i:Nat),i<l.length->(l.eraseIdx i).length=l.length - 1:=λl i h=>by rw[List.length_eraseIdx,if_pos h]
theorem jq {α:Type}:∀(l:List α)(i:Nat)(x:α),l[i]? = some x->(x::l.eraseIdx i).Perm l
 |[],i,x,h=>by simp at h
 |a::l,0,x,h=>by simp at h;subst h;exact List.Perm.refl _
 |a::l,i+1,x,h=>by
  rw[List.eraseIdx_cons_succ];simp only[List.getElem?_cons_succ]at h;exact(List.Perm.swap a x _).trans ((jq l i x h).cons a)
theorem vq {α:Type}:∀(n:Nat)(xs:List α)(s:Shared)(Q:List α->Shared->Prop),xs.length=n->(∀ys d,ys.Perm xs->Q ys { s with drawn:=d })->wpAny M A (drawOrder n xs) Q E s
 |0,xs,s,Q,hl,h=>by
  have:xs=[]:=List.eq_nil_of_length_eq_zero hl;subst this;exact wY (h [] s.drawn (List.Perm.refl _))
 |n+1,[],s,Q,hl,h=>by simp at hl
 |n+1,x::r,s,Q,hl,h=>by
  show wpAny M A (choose .order (x::r).length>>=λi=>match (x::r)[i]? with
   |some x'=>(do return x'::(←drawOrder n ((x::r).eraseIdx i)))
   |none=>unsupported "internal:drawOrder") Q E s
  refine wX (Cf (by simp) λk d hk=>?_);obtain⟨y,hy⟩:∃y,(x::r)[k]? = some y:=⟨_,vU hk⟩;rw[hy];refine wX (vq n _ _ _ (by rw[jE _ _ hk,hl];rfl) λys d' hp=>wY (h _ _ ((hp.cons y).trans (jq _ _ _ hy))))
theorem vt {α:Type}(next:Nat->Nat):∀(fuel k:Nat)(left:List α)(out:Array α),left.length=fuel->(pickOrder.go next fuel k left out).toList.Perm (out.toList++left)
 |0,k,left,out,hl=>by
  have:left=[]:=List.eq_nil_of_length_eq_zero hl;subst this;unfold pickOrder.go;simp
 |fuel+1,k,left,out,hl=>by
  unfold pickOrder.go;have hk:next k % left.length<left.length:=Nat.mod_lt _ (by omega);obtain⟨y,hy⟩:∃y,left[next k % left.length]? = some y:=⟨_,vU hk⟩;rw[hy];dsimp only;refine(vt next fuel (k+1) _ _ (by rw[jE _ _ hk];omega)).trans ?_;rw[Array.toList_push,List.append_assoc];exact(jq _ _ _ hy).append_left _
theorem xj {α:Type}(next:Nat->Nat)(xs:Array α):(pickOrder next xs).toList.Perm xs.toList:=by
 have:=vt next xs.size 0 xs.toList #[] (by simp);simpa [pickOrder]using this
theorem aX:Slot "set_iterator" "__next__" "set_iterator.__next__" :=
 .of (owner:="set_iterator") (n:="__next__") (by rw[typeLookup_type,builtinLookup_eq_fast];kernel_rfl) (by decide +kernel) (by decide +kernel) (by decide +kernel)
  (by first|exact .inl (by decide +kernel)|exact .inr (by decide +kernel)) (by rw[isSubtype_type];kernel_rfl)
theorem dG:entryFor table "set_iterator.__next__" = some Builtin.«set_iterator.__next__»:=entryFor_of_tree (by kernel_rfl)
theorem dY (a:Value):argsOk "set_iterator.__next__" ⟨[a],[]⟩:=by unfold argsOk;kernel_rfl
theorem iY:Slot "set_iterator" "__iter__" "set_iterator.__iter__" :=
 .of (owner:="set_iterator") (n:="__iter__") (by rw[typeLookup_type,builtinLookup_eq_fast];kernel_rfl) (by decide +kernel) (by decide +kernel) (by decide +kernel)
  (by first|exact .inl (by decide +kernel)|exact .inr (by decide +kernel)) (by rw[isSubtype_type];kernel_rfl)
theorem me:entryFor table "set_iterator.__iter__" = some Builtin.«dict_keyiterator.__iter__» :=
 entryFor_alias (id':="dict_keyiterator.__iter__") (by kernel_rfl) rfl (by decide +kernel) (by kernel_rfl)
theorem nw (a:Value):argsOk "set_iterator.__iter__" ⟨[a],[]⟩:=by unfold argsOk;kernel_rfl
theorem ln:entryFor table "set.__iter__" = some Builtin.«frozenset.__iter__» :=
 entryFor_alias (id':="frozenset.__iter__") (by kernel_rfl) rfl (by decide +kernel) (by kernel_rfl)
noncomputable abbrev jr (L8:Value)(i:Nat)(S:Addr)(n ep:Nat):Obj:={ cls:=.type "set_iterator",data:=.fields #[L8,.int i 0,.ref S,.int n 0,.int ep 0] }
section
variable {prog:Program}{w:World}{A:Around}{E:Value->Shared->Prop}{s:Shared}{it S:Addr}{i ep:Nat}{o:Obj}{es:Array (Int×Value)}{t:SetTable}
theorem cQ (ho:s.heap.get? it=some (jr L8 i S n ep)):s.TypeIs (.ref it) "set_iterator":=⟨_,ho,rfl⟩
theorem pQ {k k':Nat}{x:Value}{Q:Option Value->Shared->Prop}(ho:s.heap.get? it=some (jr (.int k 0) i S es.size ep))
  (hS:s.heap.get? S=some o) (hd:o.data=.set es ep t) (hf:t.fits es.size=true)
  (hN:∀(A':Around)(E':Value->Shared->Prop)(Q':Option (Value×Nat)->Shared->Prop),Q' (some (x,k')) s->wpAny (model prog w) A' (setNext S k i ep) Q' E' s)
  (hQ:∀h',h'.get? it=some (jr (.int k' 0) (i+1) S es.size ep)->Heap.SameBut it s.heap h'->Q (some x) { s with heap:=h' }):
  wpAny (model prog w) A (pyNext (.ref it)) Q E s:=by
 unfold pyNext;refine wX (wpAny_attempt (wpAny_callSpecial?_slot (name:=Str.ofString "__next__") (cQ ho) aX
  (wpAny_call_entry aX (cQ ho) dG ?_ (dY _))))
 show wpAny _ _ (fieldsOf (.ref it)>>=_) _ _ s;refine wX (wpAny_fieldsOf ho rfl ?_);show wpAny _ _ (setEntries S>>=_) _ _ s;refine wX (wpAny_setEntries_of hS hd hf ?_);rw[if_neg (by simp)];show wpAny _ _ (setNext S _ _ _>>=_) _ _ s;simp only[Int.toNat_natCast];refine wX (hN _ _ _ ?_);dsimp only;refine wX (wpAny_setField_rec ho (by simp) λh1 e1 b1=>?_);refine wX (wpAny_setField_rec e1 (by simp) λh2 e2 b2=>?_);exact wY ⟨x,rfl,wY (hQ h2 (by simpa [rawInt,jr]using e2) (b1.trans b2))⟩
theorem pR {k:Nat}{Q:Option Value->Shared->Prop}(hh:A.handled=none)(ho:s.heap.get? it=some (jr (.int k 0) i S es.size ep))
  (hS:s.heap.get? S=some o) (hd:o.data=.set es ep t) (hf:t.fits es.size=true)
  (hN:∀(A':Around)(E':Value->Shared->Prop)(Q':Option (Value×Nat)->Shared->Prop),Q' none s->wpAny (model prog w) A' (setNext S k i ep) Q' E' s)
  (hQ:∀h',Heap.ExtBut it s.heap h'->Q none { s with heap:=h' }):
  wpAny (model prog w) A (pyNext (.ref it)) Q E s:=by
 unfold pyNext;refine wX (wpAny_attempt (wpAny_callSpecial?_slot (name:=Str.ofString "__next__") (cQ ho) aX
  (wpAny_call_entry aX (cQ ho) dG ?_ (dY _))))
 show wpAny _ _ (fieldsOf (.ref it)>>=_) _ _ s;refine wX (wpAny_fieldsOf ho rfl ?_);show wpAny _ _ (setEntries S>>=_) _ _ s;refine wX (wpAny_setEntries_of hS hd hf ?_);rw[if_neg (by simp)];show wpAny _ _ (setNext S _ _ _>>=_) _ _ s;simp only[Int.toNat_natCast];refine wX (hN _ _ _ ?_);dsimp only;refine wX (wpAny_setField_rec ho (by simp) λh1 e1 b1=>?_);refine wX ?_;simp only[newExc,newTuple];refine wX (wpAny_newObj_type ?_ (by size_fits));refine wX (m:=firstArgMember _ _) (wpAny_of_eq (a:=Value.none) (by first|rfl|(simp only[firstArgMember];rfl)) ?_);refine wpAny_newObj_type ?_ (by size_fits);simp only[raiseNew];refine wX (wpAny_handled ?_);rw[show A.in1.handled=none from hh];refine wX (wY (wpAny_throw ?_));refine wX (wpAny_isInstance (T:="StopIteration") (b:=true) ⟨_,vY _ rfl,rfl⟩ isSubtype_stop ?_);exact wY (hQ _ ((b1.extBut.push _).push _))
theorem ny {T:Addr}{pl:List Nat}{p:Nat}{x:Int×Value}{nt:Nat}{Q:Option Value->Shared->Prop}(ho:s.heap.get? it=some (jr (.ref T) i S es.size ep))
  (hT:s.heap.get? T=some (seqObj "tuple" (pl.map λ(p:Nat)=>Value.int p 0).toArray nt))
  (hS:s.heap.get? S=some o) (hd:o.data=.set es ep t) (hf:t.fits es.size=true) (hp:pl[i]? = some p) (hx:es[p]? = some x)
  (hQ:∀h',h'.get? it=some (jr (.ref T) (i+1) S es.size ep)->Heap.SameBut it s.heap h'->Q (some x.2) { s with heap:=h' }):
  wpAny (model prog w) A (pyNext (.ref it)) Q E s:=by
 unfold pyNext;refine wX (wpAny_attempt (wpAny_callSpecial?_slot (name:=Str.ofString "__next__") (cQ ho) aX
  (wpAny_call_entry aX (cQ ho) dG ?_ (dY _))))
 show wpAny _ _ (fieldsOf (.ref it)>>=_) _ _ s;refine wX (wpAny_fieldsOf ho rfl ?_);show wpAny _ _ (setEntries S>>=_) _ _ s;refine wX (wpAny_setEntries_of hS hd hf ?_);rw[if_neg (by simp)];show wpAny _ _ (seqItems? (.ref T)>>=_) _ _ s;refine wX (wpAny_seqItems hT rfl ?_);have e1:(pl.map λ(p:Nat)=>Value.int p 0).toArray[(i:Int).toNat]? = some (.int p 0):=by simp[hp]
 dsimp only;rw[e1];dsimp only;have e2:wpAny (model prog w) A.in1 (setNextDrawn S (p:Int).toNat (ep:Int).toNat) (λy s'=>y=x.2/\s'=s) (λ_ _=>False) s:=by
  unfold setNextDrawn;refine wX (wpAny_setState_of hS hd hf ?_);dsimp only;rw[if_neg (by simp)];simp only[Int.toNat_natCast,hx];exact wY ⟨rfl,rfl⟩
 refine wX (wpAny_mono e2 (λy s' hy=>?_) λ_ _ z=>z.elim);obtain⟨rfl,rfl⟩:=hy;refine wX (wpAny_setField_rec ho (by simp) λh1 e1 b1=>?_);exact wY ⟨_,rfl,wY (hQ h1 (by simpa [rawInt,jr]using e1) b1)⟩
theorem nA {T:Addr}{pl:List Nat}{nt:Nat}{Q:Option Value->Shared->Prop}(hh:A.handled=none)(ho:s.heap.get? it=some (jr (.ref T) i S es.size ep))
  (hT:s.heap.get? T=some (seqObj "tuple" (pl.map λ(p:Nat)=>Value.int p 0).toArray nt))
  (hS:s.heap.get? S=some o) (hd:o.data=.set es ep t) (hf:t.fits es.size=true) (hp:pl[i]? = none)
  (hQ:∀h',Heap.ExtBut it s.heap h'->Q none { s with heap:=h' }):
  wpAny (model prog w) A (pyNext (.ref it)) Q E s:=by
 unfold pyNext;refine wX (wpAny_attempt (wpAny_callSpecial?_slot (name:=Str.ofString "__next__") (cQ ho) aX
  (wpAny_call_entry aX (cQ ho) dG ?_ (dY _))))
 show wpAny _ _ (fieldsOf (.ref it)>>=_) _ _ s;refine wX (wpAny_fieldsOf ho rfl ?_);show wpAny _ _ (setEntries S>>=_) _ _ s;refine wX (wpAny_setEntries_of hS hd hf ?_);rw[if_neg (by simp)];show wpAny _ _ (seqItems? (.ref T)>>=_) _ _ s;refine wX (wpAny_seqItems hT rfl ?_);have e1:(pl.map λ(p:Nat)=>Value.int p 0).toArray[(i:Int).toNat]? = none:=by simpa using hp
 dsimp only;rw[e1];dsimp only;refine wX (wpAny_setField_rec ho (by simp) λh0 e0 b0=>?_);refine wX (wpAny_setField_rec e0 (by simp) λh1 e1 b1=>?_);refine wX ?_;simp only[newExc,newTuple];refine wX (wpAny_newObj_type ?_ (by size_fits));refine wX (m:=firstArgMember _ _) (wpAny_of_eq (a:=Value.none) (by first|rfl|(simp only[firstArgMember];rfl)) ?_);refine wpAny_newObj_type ?_ (by size_fits);simp only[raiseNew];refine wX (wpAny_handled ?_);rw[show A.in1.handled=none from hh];refine wX (wY (wpAny_throw ?_));refine wX (wpAny_isInstance (T:="StopIteration") (b:=true) ⟨_,vY _ rfl,rfl⟩ isSubtype_stop ?_);exact wY (hQ _ (((b0.trans b1).extBut.push _).push _))
theorem re (ho:s.heap.get? it=some (jr L8 i S n ep))(h:Q (.ref it) s):wpAny (model prog w) A (pyIter (.ref it)) Q E s:=by
 refine wpAny_pyIter_slot (cQ ho) iY (wpAny_call_entry iY (cQ ho) me ?_ (nw _));show wpAny _ _ (ret (.ref it)) _ _ s;exact wY ⟨_,rfl,"set_iterator",_,cQ ho,aX.lookup,h⟩
end
section
variable {prog:Program}{w:World}{A:Around}{E:Value->Shared->Prop}{s:Shared}{it S:Addr}{i k ep:Nat}{o:Obj}{es:Array (Int×Value)}{t:SetTable}
theorem oi (hS:s.heap.get? S=some o)(hd:o.data=.set es ep t)(hf:t.fits es.size=true)(hb:w.params.followText "set-order" = true)
  (h:Q (((pickOrder (w.params.setOrder S ep) es)[i]?).map λe=>(e.2,k)) s):wpAny (model prog w) A (setNext S k i ep) Q E s:=by
 unfold setNext;refine wX (wpAny_setState_of hS hd hf ?_);dsimp only;unfold setsByText;refine wX (wX (wpAny_askSetting (wY ?_)));show wpAny _ _ (if w.params.followText "set-order" = true then _ else _) _ _ _;rw[if_pos hb,if_neg (by simp)];unfold setWalk setsByText;refine wX (wX (wpAny_setState_of hS hd hf ?_));dsimp only;refine wX (wX (wpAny_askSetting (wY ?_)));show wpAny _ _ (if w.params.followText "set-order" = true then _ else _) _ _ _;rw[if_pos hb];refine wX (wpAny_askSetting (wY ?_));exact wY h
theorem mf (hS:s.heap.get? S=some o)(hd:o.data=.set es ep t)(hf:t.fits es.size=true)(hb:w.params.followText "set-order" = false)(hl:t.led=true)(hz:es.size<=1)
  (h:Q (match es[SetTable.below t.place k]?,t.place[SetTable.below t.place k]? with
   |some (_,x),some j=>some (x,j+1)
   |_,_=>none) s):wpAny (model prog w) A (setNext S k i ep) Q E s:=by
 unfold setNext;refine wX (wpAny_setState_of hS hd hf ?_);dsimp only;unfold setsByText;refine wX (wX (wpAny_askSetting (wY ?_)));show wpAny _ _ (if w.params.followText "set-order" = true then _ else _) _ _ _;rw[if_neg (by rw[hb];simp)];show wpAny _ _ (if(!t.plain && decide (es.size > 1))=true then _ else _) _ _ _;rw[if_neg (by rw[decide_eq_false (by omega)];simp)];show wpAny _ _ ((if(!t.led && !es.isEmpty)=true then unsupported "set:maker-not-led" else pure ())>>=_) _ _ _;rw[hl,if_neg (by simp)];refine wX (wY ?_);exact wY h
theorem oj (hh:A.handled=none)(hd:o.data=.set es ep t)(hf:t.fits es.size=true)(yg:S≠it)(vs:List Value)(hv:vs.length=es.size)(sl:Nat->Nat)
  (hN:∀i x,vs[i]? = some x->∀(A':Around)(E':Value->Shared->Prop)(s:Shared)(Q':Option (Value×Nat)->Shared->Prop),s.heap.get? S=some o->Q' (some (x,sl (i+1))) s->wpAny (model prog w) A' (setNext S (sl i) i ep) Q' E' s)
  (hE:∀(A':Around)(E':Value->Shared->Prop)(s:Shared)(Q':Option (Value×Nat)->Shared->Prop),s.heap.get? S=some o->Q' none s->wpAny (model prog w) A' (setNext S (sl es.size) es.size ep) Q' E' s):
  Walks prog w A it [it,S] [it] es.size (λi v=>vs[i]? = some v) (λi h=>h.get? it=some (jr (.int (sl i) 0) i S es.size ep)/\h.get? S=some o) where
 sub:=λb hb=>by simp at hb;simp[hb]
 frame:=λ_ _ _ st hk=>⟨hk it (by simp) _ st.1,hk S (by simp) _ st.2⟩
 item:=λi s Q E hi st hQ=>by
  obtain⟨x,hx⟩:∃x,vs[i]? = some x:=⟨_,vU (by omega)⟩;refine pQ st.1 st.2 hd hf (λA' E' Q' q=>hN i x hx A' E' s Q' st.2 q) λh' h1 h2=>?_;exact hQ x h' s.toks hx ⟨h1,h2.extBut S _ yg st.2⟩ λb u hb e=>h2.extBut b u (λz=>hb (by simp[z])) e
 done:=λs Q E st hQ=>pR hh st.1 st.2 hd hf (λA' E' Q' q=>hE A' E' s Q' st.2 q) λh' h1=>hQ h' s.toks λb u hb e=>h1 b u (λz=>hb (by simp[z])) e
 self:=λ_ _ _ _ st hQ=>re st.1 hQ
theorem tH {T:Addr}{pl:List Nat}{nt:Nat}(hh:A.handled=none)(hd:o.data=.set es ep t)(hf:t.fits es.size=true)(yg:S≠it)(OW:T≠it)(hp:pl.Perm (List.range es.size)):
  Walks prog w A it [it,S,T] [it] es.size (λi v=>(pl.map λp=>(es.getD p (0,.none)).2)[i]? = some v)
   (λi h=>h.get? it=some (jr (.ref T) i S es.size ep)/\h.get? S=some o/\h.get? T=some (seqObj "tuple" (pl.map λ(p:Nat)=>Value.int p 0).toArray nt)) where
 sub:=λb hb=>by simp at hb;simp[hb]
 frame:=λ_ _ _ st hk=>⟨hk it (by simp) _ st.1,hk S (by simp) _ st.2.1,hk T (by simp) _ st.2.2⟩
 item:=λi s Q E hi st hQ=>by
  have bD:pl.length=es.size:=by rw[hp.length_eq,List.length_range]
  obtain⟨p,hx⟩:∃p,pl[i]? = some p:=⟨_,vU (by omega)⟩;have OX:p<es.size:=List.mem_range.mp (hp.mem_iff.mp (List.mem_of_getElem? hx));have he:es[p]? = some (es.getD p (0,.none)):=by rw[Array.getD_eq_getD_getElem?,Array.getElem?_eq_getElem OX];rfl
  refine ny st.1 st.2.2 st.2.1 hd hf hx he λh' h1 h2=>?_;exact hQ _ h' s.toks (by simp[hx]) ⟨h1,h2.extBut S _ yg st.2.1,h2.extBut T _ OW st.2.2⟩ λb u hb e=>h2.extBut b u (λz=>hb (by simp[z])) e
 done:=λs Q E st hQ=>by
  have bD:pl.length=es.size:=by rw[hp.length_eq,List.length_range]
  exact nA hh st.1 st.2.2 st.2.1 hd hf (List.getElem?_eq_none (by omega)) λh' h1=>hQ h' s.toks λb u hb e=>h1 b u (λz=>hb (by simp[z])) e
 self:=λ_ _ _ _ st hQ=>re st.1 hQ
end
theorem tI {α:Type}(es:Array α)(d:α):(List.range es.size).map (λp=>es.getD p d)=es.toList:=by
 apply List.ext_getElem?;intro i;by_cases h:i<es.size
 ·simp[h,Array.getD_eq_getD_getElem?]
 ·simp[h]
section
variable {prog:Program}{w:World}{A:Around}{E:Value->Shared->Prop}{s:Shared}
theorem om (h:xs=#[j]):SetTable.below xs k=if j<k then 1 else 0:=by
 subst h;by_cases h:j<k
 ·simp[SetTable.below,SetTable.below.go,h]
 ·simp[SetTable.below,SetTable.below.go,h]
theorem zx {S:Addr}{ts:List Str}{Q:Value->Shared->Prop}(hS:fL prog w s.heap S ts)
  (hQ:∀(h':Heap)(d:Drawn)(it:Addr)(vs:List Value)(fp:List Addr)(St:Nat->Heap->Prop),(∀A',A'.handled=none->Walks prog w A' it fp [it] ts.length (λi v=>vs[i]? = some v) St)->St 0 h' ->
   (∀b u,s.heap.get? b=some u->h'.get? b=some u)->s.heap.objs.size<=it->(∀b∈fp,b=S∨s.heap.objs.size<=b)->vs.length=ts.length->(vs.map strOf).Perm ts->(∀v∈vs,∃x t,v=.str x t) ->
   Q (.ref it) { s with heap:=h',drawn:=d }):wpAny (model prog w) A (pyIter (.ref S)) Q E s:=by
 obtain⟨o,es,ep,t,ho,AH,hd,yh,hp,nd,hb,hf,CY,ng⟩:=hS;have sz:es.size=ts.length:=by rw[←hp.length_eq,vI,vG]
 have FX:S<s.heap.objs.size:=vX ho;have Nc:s.TypeIs (.ref S) "set":=⟨_,ho,AH.1⟩;have AK:∀e∈es.toList,∃x t,e.2=.str x t:=λe he=>by
  obtain⟨⟨k,hk,_⟩,_⟩:=yh e he;obtain⟨t,q⟩:=Value.isStrOf_shape (show Value.isStrOf k e.2=true from hk);exact⟨k,t,q⟩
 refine wpAny_pyIter_slot Nc PySem.F.slot_set_iter (wpAny_call_entry PySem.F.slot_set_iter Nc ln ?_ (PySem.F.args_set_iter_1 _));show wpAny _ _ (Builtin.Frozenset.sizeOf S>>=_) _ _ s;unfold Builtin.Frozenset.sizeOf;refine wX (wX (wpAny_setEntries_of ho hd hf (wY ?_)));unfold setDrawn setsByText;refine wX (wX (wpAny_setState_of ho hd hf ?_));dsimp only;refine wX (wX (wpAny_askSetting (wY (wY ?_))));show wpAny _ _ (if(!w.params.followText "set-order" && (!t.plain && decide (es.size > 1)))=true then _ else _) _ _ _;have FY:(es.toList.map (·.2)).map strOf=es.toList.map (λe=>strOf e.2):=by rw[uP];rfl
 by_cases DO:w.params.followText "set-order" = true
 ·rw[if_neg (by rw[DO];simp)];refine wX (wY ?_);refine wX (wpAny_setEpoch_of ho hd hf ?_);have pp:=xj (w.params.setOrder S ep) es;have bD:((pickOrder (w.params.setOrder S ep) es).toList.map (·.2)).length=es.size:=by rw[vI,pp.length_eq,vG]
  refine wX (wpAny_newObj_type (wY ⟨_,rfl,"set_iterator",_,⟨_,vY _ rfl,rfl⟩,aX.lookup,?_⟩));refine hQ _ s.drawn s.heap.objs.size ((pickOrder (w.params.setOrder S ep) es).toList.map (·.2)) [s.heap.objs.size,S] (λi h=>h.get? s.heap.objs.size=some (jr (.int ((λ_=>0:Nat->Nat) i:Nat) 0) i S es.size ep)/\h.get? S=some o) (λA' hA=>?_) ?_ (λb u e=>vZ _ e) (vT _) (λb hb=>?_) (bD.trans sz) ?_ ?_
  ·rw[←sz];exact oj hA hd hf (vS FX) _ bD (λ_=>0) (λi x hx A' E' s Q' h1 h2=>oi h1 hd hf DO (by
    rw[vB,Array.getElem?_toList]at hx;obtain⟨e,he,rfl⟩:=oY hx;rw[he];exact h2)) (λA' E' s Q' h1 h2=>oi h1 hd hf DO (by
    rw[Array.getElem?_eq_none (by rw[←vG,pp.length_eq,vG];exact vT _)];exact h2))
  ·exact⟨vY _ rfl,vZ _ ho⟩
  ·simp only[List.mem_cons,List.not_mem_nil,or_false]at hb;rcases hb with rfl|rfl
   ·exact .inr (vT _)
   ·exact .inl rfl
  ·refine List.Perm.trans ?_ hp;rw[←FY];exact(pp.map _).map _
  ·intro v hv;obtain⟨e,he,rfl⟩:=vO hv;exact AK e (pp.mem_iff.mp he)
 ·rw[Bool.not_eq_true]at DO;have hl:t.led=true:=by rw[CY,DO];rfl
  by_cases h1:es.size<=1
  ·rw[if_neg (by rw[decide_eq_false (by omega)];simp)];refine wX (wY ?_);refine wX (wpAny_setEpoch_of ho hd hf ?_);refine wX (wpAny_newObj_type (wY ⟨_,rfl,"set_iterator",_,⟨_,vY _ rfl,rfl⟩,aX.lookup,?_⟩));have Nd:t.place.size=es.size:=by
    simp only[SetTable.fits,vD,beq_iff_eq,decide_eq_true_eq]at hf;exact hf.1
   refine hQ _ s.drawn s.heap.objs.size (es.toList.map (·.2)) [s.heap.objs.size,S] (λi h=>h.get? s.heap.objs.size=some (jr (.int ((λi=>if i=0 then 0 else t.place.getD 0 0+1:Nat->Nat) i:Nat) 0) i S es.size ep)/\h.get? S=some o) (λA' hA=>?_) ?_ (λb u e=>vZ _ e) (vT _) (λb hb=>?_) (by rw[vI,vG,sz]) (by rw[FY];exact hp) ?_
   ·rw[←sz];refine oj hA hd hf (vS FX) _ (by simp) (λi=>if i=0 then 0 else t.place.getD 0 0+1) (λi x hx A' E' s Q' q1 q2=>mf q1 hd hf DO hl h1 ?_) (λA' E' s Q' q1 q2=>mf q1 hd hf DO hl h1 ?_)
    ·have hi:i<es.size:=by have:=(vV hx).1;simpa using this
     have OY:i=0:=by omega
     subst OY;obtain⟨j,hj⟩:∃j,t.place=#[j]:=Array.size_eq_one_iff.mp (by omega);rw[if_pos rfl,om hj,if_neg (by omega)];rw[vB,Array.getElem?_toList]at hx;obtain⟨e,he,rfl⟩:=oY hx;rw[he];simp only[hj]at q2 ⊢;simpa using q2
    ·by_cases h0:es.size=0
     ·have L9:t.place=#[]:=Array.eq_empty_of_size_eq_zero (by omega);have OZ:es=#[]:=Array.eq_empty_of_size_eq_zero h0;rw[L9,OZ];simpa using q2
     ·obtain⟨j,hj⟩:∃j,t.place=#[j]:=Array.size_eq_one_iff.mp (by omega);rw[if_neg h0,om hj];have:t.place.getD 0 0=j:=by rw[hj];rfl
      rw[this,if_pos (by omega),Array.getElem?_eq_none (by omega)];exact q2
   ·exact⟨vY _ rfl,vZ _ ho⟩
   ·simp only[List.mem_cons,List.not_mem_nil,or_false]at hb;rcases hb with rfl|rfl
    ·exact .inr (vT _)
    ·exact .inl rfl
   ·intro v hv;obtain⟨e,he,rfl⟩:=vO hv;exact AK e he
  ·have L9:t.plain=false:=ng (by omega);rw[if_pos (by rw[DO,L9,decide_eq_true (by omega)];rfl)];refine wX (vq es.size (List.range es.size) _ _ (by simp) λpl d pp=>?_);refine wX (wpAny_newTuple ?_ (by rw[vI,pp.length_eq,List.length_range,sz];exact fits_of_scanBound hb));refine wX (wpAny_setEpoch_of (vZ _ ho) hd hf ?_);refine wX (wpAny_newObj_type (wY ⟨_,rfl,"set_iterator",_,⟨_,vY _ rfl,rfl⟩,aX.lookup,?_⟩));have hsz:(s.heap.push (seqObj "tuple" (pl.map λ(p:Nat)=>Value.int p 0).toArray 0)).objs.size=s.heap.objs.size+1:=size_push' _ _;have fJ:((pl.map λp=>(es.getD p (0,.none)).2)).Perm (es.toList.map (·.2)):=by
    have:=(pp.map λp=>es.getD p (0,Value.none)).map (·.2);rw[tI]at this;rw[uP]at this;exact this
   refine hQ _ d _ (pl.map λp=>(es.getD p (0,.none)).2) [(s.heap.push (seqObj "tuple" (pl.map λ(p:Nat)=>Value.int p 0).toArray 0)).objs.size,S,s.heap.objs.size] (λi h=>h.get? (s.heap.push (seqObj "tuple" (pl.map λ(p:Nat)=>Value.int p 0).toArray 0)).objs.size=some (jr (.ref s.heap.objs.size) i S es.size ep)/\h.get? S=some o/\h.get? s.heap.objs.size=some (seqObj "tuple" (pl.map λ(p:Nat)=>Value.int p 0).toArray 0)) (λA' hA=>?_) ?_ (λb u e=>vZ _ (vZ _ e)) ?_ (λb hb=>?_) ?_ ?_ ?_
   ·rw[←sz];exact tH (nt:=0) hA hd hf (by show S≠(s.heap.push _).objs.size;rw[size_push'];exact vS (Nat.lt_succ_of_lt FX)) (by show s.heap.objs.size≠(s.heap.push _).objs.size;rw[size_push'];exact vS (Nat.lt_succ_self _)) pp
   ·exact⟨vY _ rfl,vZ _ (vZ _ ho),vZ _ (vY _ rfl)⟩
   ·show s.heap.objs.size<=(s.heap.push _).objs.size;rw[size_push'];omega
   ·simp only[List.mem_cons,List.not_mem_nil,or_false]at hb;rcases hb with rfl|rfl|rfl
    ·refine .inr ?_;show s.heap.objs.size<=(s.heap.push _).objs.size;rw[size_push'];omega
    ·exact .inl rfl
    ·exact .inr (vT _)
   ·rw[fJ.length_eq,vI,vG,sz]
   ·exact((fJ.map strOf).trans (by rw[FY])).trans hp
   ·intro v hv;obtain⟨e,he,rfl⟩:=vO (fJ.mem_iff.mp hv);exact AK e he
end
theorem xk (h:ItemsOf (λi v=>vs[i]? = some v) iS vs.length):iS.toList=vs:=by
 apply List.ext_getElem?;intro i;by_cases hi:i<iS.size
 ·have e:iS[i]? = some iS[i]:=Array.getElem?_eq_getElem hi;rw[Array.getElem?_toList,e,h.2 i _ e]
 ·rw[List.getElem?_eq_none (by rw[vG];omega),List.getElem?_eq_none (by rw[←h.1];omega)]
section
variable {prog:Program}{w:World}{A:Around}{E:Value->Shared->Prop}{s:Shared}
theorem rf (hh:A.handled=none)(hS:fL prog w s.heap S ts)
  (hQ:∀s' vs,(∀b u,s.heap.get? b=some u->s'.heap.get? b=some u)->s'.gens=s.gens->s'.os=s.os->vs.length=ts.length->(vs.map strOf).Perm ts->(∀v∈vs,∃x t,v=.str x t)->Q vs s'):
  wpAny (model prog w) A (collect (.ref S)) Q E s:=by
 have AU:∀(s1:Shared),fL prog w s1.heap S ts->s1.TypeIs (.ref S) "set":=λs1 h=>by
  obtain⟨o,_,_,_,ho,AH,_⟩:=h;exact⟨o,ho,AH.1⟩
 have gi:S<s.heap.objs.size:=by obtain⟨o,_,_,_,ho,_⟩:=hS;exact vX ho
 have Jf:ts.length<scanBound:=by obtain⟨_,_,_,_,_,_,_,_,_,_,h,_⟩:=hS;exact h
 unfold collect;refine wX (wpAny_runValue (codeAny_builtin PySem.F.entry_proto_collect ?_));rw[Around.under_plainId PySem.F.plain_proto_collect _];show wpAny _ A.in1 (newList []>>=λl=>again (.builtin "list.__iadd__" ⟨[l,.ref S],[]⟩)) _ _ s;refine wX (wpAny_newObj_type ?_);refine wY ⟨plainId_quiet PySem.F.plain_list_iadd _,codeAny_builtin PySem.F.entry_list_iadd ?_⟩;rw[Around.under_plainId PySem.F.plain_list_iadd _];show wpAny _ A.in1 (Builtin.List.listExtendWith (.ref s.heap.objs.size) (.ref S) (.ref s.heap.objs.size)) _ _ _;unfold Builtin.List.listExtendWith;have LA:fL prog w (s.heap.push { cls:=.type "list",data:=.seq ([]:List Value).toArray }) S ts:=hS.at λo e=>vZ _ e;refine wX (wpAny_typeOf (AU _ LA) ?_);have Nf:s.heap.objs.size≠S:=Nat.ne_of_gt gi;have h1:Builtin.List.listSameRef (.ref s.heap.objs.size) (.ref S)=false:=by simp[Builtin.List.listSameRef,Nf]
 have h2:(Value.type "set" == Value.type "list")=false:=by decide
 have h3:(Value.type "set" == Value.type "tuple")=false:=by decide
 simp only[h1,h2,h3,Bool.or_false,uW,if_false];refine wX (zx (s:={ s with heap:=s.heap.push { cls:=.type "list",data:=.seq ([]:List Value).toArray } }) LA λh' d it vs fp St W lg hk JK hfp FN fJ AE=>?_);have DN:fL prog w h' S ts:=LA.at λo e=>hk _ _ e;refine wX (wpAny_holding ?_);unfold Builtin.List.listLengthHint;refine wX (wpAny_specialOf (AU _ DN) PySem.F.slot_set_len.lookup ?_);wp_delta;refine wX (wpAny_isInstance (AU _ DN) sub_set_self ?_);show wpAny _ A.in1 (typeOf (Value.ref S)>>=_) _ _ _;refine wX (wpAny_typeOf (AU _ DN) ?_);refine wY ?_;rw[if_pos (by decide)];refine wX (wpAny_rule ?_);refine wX ?_;have Jg:(s.heap.push { cls:=.type "list",data:=.seq ([]:List Value).toArray }).objs.size=s.heap.objs.size+1:=size_push' _ _;have Ng:h'.get? s.heap.objs.size=some { cls:=.type "list",data:=.seq ([]:List Value).toArray }:=hk _ _ (vY _ rfl);show wpAny _ A.in1 (updateSeq s.heap.objs.size (·.push .none)>>=λ_=>updateSeq s.heap.objs.size (·.pop)) _ _ _;refine wX (wpAny_updateSeq Ng rfl ?_);have Nh:=Heap.get?_update_self (Obj.mapSeq (·.push Value.none)) Ng rfl;refine wpAny_updateSeq Nh rfl ?_;have Pa:=Heap.get?_update_self (Obj.mapSeq (·.pop)) Nh rfl;have wz:s.heap.objs.size∉fp:=λhm=>by
  rcases hfp _ hm with z|z
  ·exact Nf z
  ·rw[Jg]at z;exact absurd z (Nat.not_succ_le_self _)
 have Ni:∀b u,b≠s.heap.objs.size->h'.get? b=some u ->
   ((h'.update s.heap.objs.size (Obj.mapSeq (·.push Value.none))).update s.heap.objs.size (Obj.mapSeq (·.pop))).get? b=some u :=
  λb u hb e=>(Heap.get?_update_other _ _ (Ne.symm hb)).trans ((Heap.get?_update_other _ _ (Ne.symm hb)).trans e)
 have W0:=W A.in1 hh;refine wY ⟨plainId_quiet PySem.F.plain_extend_loop _,codeAny_extend_loopS W0.toS (fits_of_scanBound Jf) _ wz _ ts.length 0 _ _ _ rfl (uM _)
  (W0.frame 0 _ _ lg λb hb u e=>Ni b u (λz=>wz (z ▸ hb)) e) Pa (ItemsOf.nil _) λs' acc' c' hm hL' hacc=>?_⟩
 show wpAny _ A (load s.heap.objs.size>>=_) _ _ s';refine wX (wpAny_load hL' ?_);rw[←FN]at hacc;refine wY ?_;show Q acc'.toList s';rw[xk hacc];refine hQ s' vs (λb u e=>hm.heap b u (λhb=>?_) (Ni b u (vS (vX e)) (hk _ _ (vZ _ e)))) hm.gens hm.os FN fJ AE;have hl:=vX e;simp only[List.mem_cons,List.not_mem_nil,or_false]at hb;rcases hb with rfl|rfl
 ·exact absurd hl (Nat.lt_irrefl _)
 ·rw[Jg]at JK;exact absurd (vQ hl (Nat.le_of_succ_le JK)) (Nat.lt_irrefl _)
theorem tJ (hh:A.handled=none)(hS:fL prog w s.heap S ts)(DP:ts.length<64)
  (hQ:∀(s1:Shared)(h':Heap)(a:Addr)(out:Array Value)(n:Nat)(sL:List Str),(∀b u,s.heap.get? b=some u->s1.heap.get? b=some u)->s1.os=s.os->s1.gens=s.gens->(∀b u,s1.heap.get? b=some u->h'.get? b=some u)->s1.heap.objs.size<=a->h'.get? a=some (seqObj "list" out n) ->
   StrsAre out.toList sL->sL.Perm ts->sortedS sL=true->Q (.ref a) { s1 with heap:=h' }):
  wpAny (model prog w) A (call (.builtin "sorted") [.ref S]) Q E s:=by
 refine Calls.call_function_entry kind_sorted plain_sorted entry_sorted (args_sorted1 _) ?_;unfold Builtin.«sorted»;refine wX (m:=checkCount "sorted" 1 1 _) (wY ?_);refine wX (rf (A:=A.in1) (by exact hh) hS λs1 vs hk hg CQ FN fJ AE=>?_);have lg:StrsAre vs (vs.map strOf):=strsAre_map vs AE;refine wX (wpAny_newList ?_ (by rw[FN,sizeLine_eq];omega));have Iw:(s1.heap.push (seqObj "list" vs.toArray 0)).get? s1.heap.objs.size=some (seqObj "list" vs.toArray 0):=vY _ rfl;show wpAny _ _ _ _ _ { s1 with heap:=s1.heap.push (seqObj "list" vs.toArray 0) };refine wX (wpAny_holding (wpAny_call_entry slot_list_sort ⟨_,Iw,rfl⟩ entry_list_sort (list_sort_treeK strKind_oneLt Iw lg.keysOf (λv₁ v₂ rest e=>keyKind_strs (by rw[←e];exact lg)) (by rw[FN];exact DP) λmR a1 a2=>⟨_,rfl,?_⟩) (args_list_sort _)));obtain⟨sL,b1,b2,b3⟩:=sorted_out_str lg a1 a2;obtain⟨e,he⟩:=sortedHeap_at (out:=(arrOf mR).map (·.2)) Iw;refine wY ⟨_,rfl,hQ s1 _ _ _ e sL hk CQ hg (λb u q=>?_) (vT _) he b1 (b2.trans fJ) b3⟩;have hl:=vX q;rw[sortedHeap_old (vS hl) (by rw[size_push'];exact Nat.lt_succ_of_lt hl)];exact vZ _ q
end
end DL
namespace DL
open PySem PySem.Spec PyProof.Rows L2
def pU (a b:Str):Prop:=¬b.cps.toList<a.cps.toList
theorem vv:ltCps b.cps.toList a.cps.toList=false↔pU a b:=by rw[ltCps_eq,decide_eq_false_iff_not];rfl
theorem oo (h:pU a b)(k:pU b c):pU a c:=by
 unfold pU at *;exact List.not_lt.mpr (List.le_trans (List.not_lt.mp h) (List.not_lt.mp k))
theorem zy (h:pU a b)(k:pU b a):a=b:=by
 have e:a.cps.toList=b.cps.toList:=List.le_antisymm (List.not_lt.mp h) (List.not_lt.mp k);obtain⟨a⟩:=a;obtain⟨b⟩:=b;have:a=b:=Array.toList_inj.mp e;rw[this]
noncomputable def tK (x:Str):List Str->List Str
 |[]=>[x]
 |y::r=>if ltCps y.cps.toList x.cps.toList then y::tK x r else x::y::r
noncomputable def kR (l:List Str):List Str:=l.foldr tK []
theorem kB (x:Str):∀l,(tK x l).Perm (x::l)
 |[]=>List.Perm.refl _
 |y::r=>by
  unfold tK;split
  ·exact((kB x r).cons y).trans (List.Perm.swap x y r)
  ·exact List.Perm.refl _
theorem fz:∀l,(kR l).Perm l
 |[]=>List.Perm.refl _
 |x::l=>(kB x (kR l)).trans ((fz l).cons x)
theorem oq (x:Str):∀l,l.Pairwise pU->(tK x l).Pairwise pU
 |[],_=>by simp[tK]
 |y::r,h=>by
  obtain⟨h1,h2⟩:=List.pairwise_cons.mp h;unfold tK;split
  ·rename_i hl;refine List.pairwise_cons.mpr ⟨λz hz=>?_,oq x r h2⟩;rcases vP ((kB x r).mem_iff.mp hz)with rfl|hz
   ·rw[ltCps_eq,decide_eq_true_eq]at hl;exact λk=>List.lt_irrefl _ (List.lt_trans hl k)
   ·exact h1 z hz
  ·rename_i hl;rw[Bool.not_eq_true]at hl;have JL:pU x y:=vv.mp hl;refine List.pairwise_cons.mpr ⟨λz hz=>?_,h⟩;rcases vP hz with rfl|hz
   ·exact JL
   ·exact oo JL (h1 z hz)
theorem mh:∀l,(kR l).Pairwise pU
 |[]=>List.Pairwise.nil
 |x::l=>oq x _ (mh l)
theorem kS:∀(l:List Str)(p:Str),risingS p l=true->(p::l).Pairwise pU
 |[],p,_=>List.pairwise_singleton _ _
 |x::r,p,h=>by
  have h':(!ltCps x.cps.toList p.cps.toList && risingS x r)=true:=h;rw[vD]at h';have Nj:pU p x:=vv.mp (by simpa using h'.1);have ih:=kS r x h'.2;refine List.pairwise_cons.mpr ⟨λz hz=>?_,ih⟩;rcases vP hz with rfl|hz
  ·exact Nj
  ·exact oo Nj ((List.pairwise_cons.mp ih).1 z hz)
theorem rg:∀(l:List Str),sortedS l=true->l.Pairwise pU
 |[],_=>List.Pairwise.nil
 |x::r,h=>kS r x h
theorem rh (a:Str):pU a a:=List.lt_irrefl _
theorem mi:∀(l1 l2:List Str),l1.Perm l2->l1.Pairwise pU->l2.Pairwise pU->l1=l2
 |[],l2,p,_,_=>(List.nil_perm.mp p).symm
 |x::r1,[],p,_,_=>absurd p.length_eq (by simp)
 |x::r1,y::r2,p,h1,h2=>by
  have JL:pU x y:=by
   rcases vP (p.mem_iff.mpr (mX ..))with z|z
   ·rw[z];exact rh _
   ·exact(List.pairwise_cons.mp h1).1 y z
  have Nk:pU y x:=by
   rcases vP (p.mem_iff.mp (mX ..))with z|z
   ·rw[z];exact rh _
   ·exact(List.pairwise_cons.mp h2).1 x z
  have e:=zy JL Nk;subst e;rw[mi r1 r2 (List.Perm.cons_inv p) (List.pairwise_cons.mp h1).2 (List.pairwise_cons.mp h2).2]
theorem xl (p:l'.Perm l)(h:sortedS l'=true):l'=kR l:=mi _ _ (p.trans (fz l).symm) (rg _ h) (mh l)
section
variable {X:Cx}
noncomputable def rj (X:Cx)(S:Addr)(ts:List Str):HO:=.ext λh=>fL X.prog X.w h S ts
theorem xm (I:Inv X aa σ H s)(k:∀b u,s.heap.get? b=some u->s1.heap.get? b=some u)(ho:s1.os=s.os)(hg:s1.gens=s.gens):Inv X aa σ H s1:=by
 have I1:=I.step (g':=s.gens) (d':=s1.drawn) (t':=s1.toks) (h':=s1.heap) (H':=H) (ch:=[]) (λ_ z=>nomatch z) (λb o _ _ _ e _=>k b o e) (λb o _ _ _ e _=>⟨o.slots,k b o e⟩) (λ_ _ _ _ n=>n)
  (λb o _ e=>⟨o,k b o e⟩) (λ_ _ e=>e) (λ_ _ _ e=>e) (λ_ _ e=>e) (λm hm=>?_) (I.hok.kept k) I.bare
 ·obtain⟨h1,g1,d1,t1,o1⟩:=s1;cases ho;cases hg
  exact I1
 ·obtain⟨o,es,ep,ho,r⟩:=hm;exact⟨o,es,ep,k _ o ho,r⟩
theorem kT (hc:X.calm=true):bG X (.type "set") (λxs H Q=>∃p ys ss,xs=[.ref p]/\fU X.K H p ys/\(∀its,aP ys its->StrsAre its ss)/\ss.length<4000/\∀S,H S=none->Q (.ref S) (upd H S (rj X S (fM ss)))):=by
 intro aa s σ H xs us Q I r h;obtain⟨p,ys,ss,rfl,hq,hs,DP,q⟩:=h;obtain⟨u,rfl,rx⟩:=gX r;cases rx
 obtain⟨its,r',pl,hz⟩:=I.list hq;have lg:=hs its r';have bD:its.length=ss.length:=by rw[←lg.strs,vI]
 refine md (I.ok.hd hc) pl.isList (by simpa using lg) (by simp only[vH];unfold scanBound;omega) λh' tk hS hk=>?_;refine⟨.ref s.heap.objs.size,_,I.laid (t':=tk) (λb u e=>hk b u (vX e) e) (vT _) ?_,rfl,q _ (I.hok.fresh (vT _))⟩;refine⟨hS,?_,λh1 h2 z k=>z.at k⟩;obtain⟨o,_,_,_,ho,_⟩:=hS;exact⟨o,ho⟩
theorem lp (hc:X.calm=true):bG X (.builtin "sorted") (λxs H Q=>∃S ts,xs=[.ref S]/\H S=some (rj X S ts)/\ts.length<64/\∀l,H l=none->Q (.ref l) (upd H l (.lst ((kR ts).map .str)))):=by
 intro aa s σ H xs us Q I r h;obtain⟨S,ts,rfl,hS,DP,q⟩:=h;obtain⟨u,rfl,rx⟩:=gX r;cases rx
 have hT:fL X.prog X.w s.heap S ts:=(I.hok S _ hS).1;refine tJ (I.ok.hd hc) hT DP λs1 h' a out n sL k1 ho hg k2 hp he lg fJ hso=>?_;have e:=xl fJ hso;subst e;have I1:=xm I k1 ho hg;have hv:∀ {its:List Value}{zs:List Str},StrsAre its zs->aP (zs.map V.str) its:=λz=>by
  induction z with
  |nil=>exact .nil
  |cons x t _ ih=>exact .cons ⟨t,rfl⟩ ih
 refine⟨.ref a,_,I1.laid (t':=s1.toks) k2 hp (show br X.prog X.w _ h' _ (.lst _)from ⟨?_,out.toList,n,hv lg,he⟩),rfl,q _ (I1.hok.fresh hp)⟩;rw[vI,(fz ts).length_eq,sizeLine_eq];omega
end
@[simp] def jF:D->OB
 |.lst ds=>(fO ds).bind λss=>if ss.length<64 then some (.lst ((kR (fM ss)).map .str),true)else none
 |_=>none
@[simp] def jG:D->OB
 |.lst ds=>(fO ds).bind λss=>if ss.length<4000 then some (.int ((fM ss).length:Nat),false)else none
 |_=>none
theorem z0:bootBuiltins "sorted" = some (.builtin "sorted"):=by decide +kernel
theorem D0:bootBuiltins "set" = some (.type "set"):=by decide +kernel
theorem gt {K:Frag}{N:Hp}:∀(zs:List Str),IsL K N (zs.map V.str) (zs.map D.str)
 |[]=>.nil
 |z::zs=>.cons (.str z) (gt zs)
section
variable {X:Cx}{e:Expr}{pos pos2 p p2:Pos}
theorem tL (hc:X.calm=true)(m1:X.mg "sorted" = none)(m2:X.mg "set" = none)(he:JE X e f)(g1:Gl X "sorted":=by rfl)(g2:Gl X "set":=by rfl)
  (h1:starEach [e] X.env=(false,eval e X.env)::starEach [] X.env:=by rfl):JE X (.Call (.Name "sorted" p) [.Call (.Name "set" p2) [e] [] pos2] [] pos) (f1 jF f):=by
 refine PE.to (lI (lp hc) g1 m1 z0 (eN (ko (kT hc) g2 m2 D0 (eN he gG h1) (he:=h1)) gG)) λσ H Q q=>?_;obtain⟨B,ρ,d',bb,sB,r,ee,q⟩:=q;obtain⟨x1,ex,ee⟩:=oX ee;refine⟨B,ρ,x1.1,x1.2,sB,r,ex,λv H1 N1 xt i1 fr=>?_⟩;obtain⟨xd,xb⟩:=x1;cases i1<;>try (simp[jF]at ee;done)
 rename_i l0 vs ds h hl;simp only[jF]at ee;obtain⟨ss,ez,ee⟩:=oX ee;split at ee
 ·rename_i DP;cases ee
  refine⟨_,_,ss,rfl,xt.nh.seq h,λits r'=>gs r' hl ez,by omega,λS hS=>⟨S,_,rfl,ay,Nat.lt_of_le_of_lt (ma ss) DP,λl AW=>?_⟩⟩;have x2:=Ext.laid (o:=rj X S (fM ss)) xt.nh hS;have x3:=Ext.laid (o:=.lst ((kR (fM ss)).map V.str)) x2.nh AW;have JM:H l=none:=((xt.trans x2).hh).free AW;exact q _ _ _ ((xt.trans x2).trans x3) (.lst (fU.of ay) (gt _)) λ_=>⟨_,_,_,rfl,rfl,JM,ay,gt _⟩
 ·cases ee
end
end DL
namespace DL
open PySem PySem.Spec PySem.W PyProof.Rows
inductive Run (n:Nat)(lt:Nat->Nat->Bool){α:Type}:KasT α->α->Prop where
 |ret (a:α):Run n lt (.ret a) a
 |ask {i j:Nat}{k:Bool->KasT α}{a:α}(hi:i<n) (hj:j<n) (h:Run n lt (k (lt i j)) a):Run n lt (.ask i j k) a
theorem Run.bind {n:Nat}{lt:Nat->Nat->Bool}{α β:Type}{t:KasT α}{f:α->KasT β}{a:α}{b:β}(h:Run n lt t a)(k:Run n lt (f a) b):Run n lt (t.bind f) b:=by
 induction h with
 |ret a=>exact k
 |ask hi hj _ ih=>exact .ask hi hj (ih k)
section
variable {n:Nat}{rk:Nat->Int}
structure Arr (n:Nat)(p:Array Nat):Prop where
 size:p.size=n
 perm:p.toList.Perm (List.range n)
theorem Arr.lt {p:Array Nat}(h:Arr n p){k:Nat}(hk:k<n):p.getD k 0<n:=by
 have AG:k<p.size:=by rw[h.size];exact hk
 have:p.getD k 0=p[k]:=by rw[Array.getD_eq_getD_getElem?,Array.getElem?_eq_getElem AG];rfl
 rw[this];exact List.mem_range.mp (h.perm.mem_iff.mp (by simp))
end
section
variable {α:Type}(f:α->List Int)
noncomputable def HM (x:α):List α->List α
 |[]=>[x]
 |y::r=>if f y<f x then y::HM x r else x::y::r
noncomputable def HN (l:List α):List α:=l.foldr (HM f) []
end
inductive At where
 |i (n:Int)
 |s (z:Str)
noncomputable def NN:At->List Int
 |.i n=>[n]
 |.s z=>z.cps.toList.map (λ(c:Nat)=>(c:Int)+1)++[0]
noncomputable def HP (xs:List At):List Int:=xs.flatMap NN
noncomputable def Fe:List At->List At->Option Bool
 |[],ys=>some (!ys.isEmpty)
 |_::_,[]=>some false
 |.i a::xs,.i b::ys=>if a=b then Fe xs ys else some (decide (a<b))
 |.s a::xs,.s b::ys=>if a=b then Fe xs ys else some (decide (a.cps.toList<b.cps.toList))
 |_::_,_::_=>none
noncomputable def HQ (ks:List (List At)):Bool:=ks.all λx=>ks.all λy=>(Fe x y).isSome
def NO:At->Value->Prop
 |.i n,v=>∃t,v=.int n t
 |.s z,v=>∃t,v=.str z t
def HR (h:Heap)(xs:List At)(v:Value):Prop:=∃a o its n,v=.ref a/\h.get? a=some o/\o.cls=.type "tuple"/\o.data=.seq its n/\Paired NO xs its.toList
noncomputable def z4 (ks:List (List At)):Bool:=ks.all (λx=>match x with|.i _::_=>true|_=>false) || ks.all (λx=>match x with|.s _::_=>true|_=>false)
end DL
namespace DL
open PySem PySem.Spec PySem.W PyProof.Rows L2
noncomputable def HS:D->Option At
 |.int n=>some (.i n)
 |.str z=>some (.s z)
 |_=>none
def tM:List D->Option (List At)
 |[]=>some []
 |d::ds=>(HS d).bind λa=>(tM ds).map (a :: ·)
def K1:D->Option (List At)
 |.tup es=>tM es
 |_=>none
def D1:List D->Option (List (List At))
 |[]=>some []
 |d::ds=>(K1 d).bind λa=>(D1 ds).map (a :: ·)
end DL
namespace DL
open PySem PySem.Spec PyProof.Rows L2
section
variable {X:Cx}{e:Expr}{pos pos2 p p2:Pos}
theorem nB:bG X (.builtin "len") (λxs H Q=>∃S ts,xs=[.ref S]/\H S=some (rj X S ts)/\Q (.int (ts.length:Nat)) H):=by
 intro aa s σ H xs us Q I r h;obtain⟨S,ts,rfl,hS,q⟩:=h;obtain⟨u,rfl,rx⟩:=gX r;cases rx
 have hT:fL X.prog X.w s.heap S ts:=(I.hok S _ hS).1;obtain⟨o,es,ep,t,ho,AH,hd,yh,hp,nd,hb,hf,_⟩:=hT;have sz:es.size=ts.length:=by rw[←hp.length_eq,vI,vG]
 have Nl:ts.length<4096:=hb;exact PySem.call_len_set ho AH hd hf (by rw[sz];omega) ⟨.int (ts.length:Nat),H,I.tok _,⟨_,by rw[sz]⟩,q⟩
theorem xn (hc:X.calm=true)(m1:X.mg "len" = none)(m2:X.mg "set" = none)(he:JE X e f)(g1:Gl X "len":=by rfl)(g2:Gl X "set":=by rfl)
  (h1:starEach [e] X.env=(false,eval e X.env)::starEach [] X.env:=by rfl):JE X (.Call (.Name "len" p) [.Call (.Name "set" p2) [e] [] pos2] [] pos) (f1 jG f):=by
 refine PE.to (lI nB g1 m1 cm (eN (ko (kT hc) g2 m2 D0 (eN he gG h1) (he:=h1)) gG)) λσ H Q q=>?_;obtain⟨B,ρ,d',bb,sB,r,ee,q⟩:=q;obtain⟨x1,ex,ee⟩:=oX ee;refine⟨B,ρ,x1.1,x1.2,sB,r,ex,λv H1 N1 xt i1 fr=>?_⟩;obtain⟨xd,xb⟩:=x1;cases i1<;>try (simp[jG]at ee;done)
 rename_i l0 vs ds h hl;simp only[jG]at ee;obtain⟨ss,ez,ee⟩:=oX ee;split at ee
 ·rename_i DP;cases ee
  refine⟨_,_,ss,rfl,xt.nh.seq h,λits r'=>gs r' hl ez,DP,λS hS=>⟨S,_,rfl,ay,?_⟩⟩;have x2:=Ext.laid (o:=rj X S (fM ss)) xt.nh hS;exact(q.into (xt.trans x2)).one (xt.trans x2).nh (.int _)
 ·cases ee
end
section
variable {X:Cx}{a:Expr}{pos:Pos}{x:Str}{p:Pos}{d:Addr}{aG:List (Str×D)}
theorem xo (cd:jD X.K X.w.params d aG):c6 X (compareOp .NotIn) (λx y H Q=>∃z,x=.str z/\y=.ref d/\Q (.bl (!(aG.lookup z).isSome)) H):=by
 rintro aa s σ H _ _ v u Q I rx ry ⟨z,rfl,rfl,q⟩;cases ry
 obtain⟨t,rfl⟩:=rx;obtain⟨f,hM,sm,hf⟩:=cd.map I;refine wpAny_notIn_of (strKind_is X.prog X.w z t) sm hM ⟨.bl (!(aG.lookup z).isSome),H,I.tok _,?_,q⟩;have:=hf z;cases el:aG.lookup z with
 |none=>rw[el]at this;dsimp only at this;rw[this];rfl
 |some dd=>rw[el]at this;obtain⟨_,_,e1,_⟩:=this;rw[e1];rfl
theorem ot (h:∃d,X.mg x=some (.ref d)/\jD X.K X.w.params d aG)(ha:JE X a f)(hg:Gl X x:=by rfl)(hd:(x == ("__debug__" : Str))=false:=by decide)(hm:behindInMarks .NotIn (.Name x p)=false:=by rfl):JT X (.Compare a [.NotIn] [.Name x p] pos) (aT (f1 (jp aG) f)):=by
 obtain⟨d,hmg,cd⟩:=h;refine PT.to (u0 (xo cd) ha (ls (v:=.ref d) hg hmg rfl hd) hm) λσ H Q q=>?_;obtain⟨B,ρ,d',bb,sB,r,ee,q⟩:=pD q;obtain⟨x1,ex,ee⟩:=oX ee;refine⟨B,ρ,x1.1,x1.2,sB,r,ex,λv H1 N1 xt i1 fr=>?_⟩;obtain⟨xd,xb⟩:=x1;cases i1<;>try (simp[jp]at ee;done)
 rename_i z;simp only[jp]at ee;cases ee
 exact⟨z,rfl,rfl,(q.into xt).one xt.nh (.bl _)⟩
end
section
variable {prog:Program}{w:World}{A:Around}{E:Value->Shared->Prop}{s:Shared}
theorem tN {a:Addr}{o:Obj}{its:Array Value}{n:Nat}{x:Value}{e:Value->Bool}{j:Nat}{P:PySem.Fin->Shared->Prop}(ho:s.heap.get? a=some o)(hd:o.data=.seq its n)
  (he:∀y∈its,MeetsSeq.EqGives y x (e y)) (hj:j<its.size) (JK:e its[j]=true) (G0:∀m (hm:m<its.size),m<j->e its[m]=false)
  (h:P (.done (.ret (.int j s.toks))) { s with toks:=s.toks+1 }):wpAny (model prog w) A (Builtin.«tuple.index» ⟨[.ref a,x],[]⟩) P E s:=by
 show wpAny _ _ (Builtin.Tuple.tupleItemsOf (.ref a)>>=_) _ _ s;refine wX (wpAny_tupleItemsOf ho hd ?_);dsimp only;refine wX (wY (wX (wY (wX ?_))));rw[Std.Legacy.Range.forIn_eq_forIn_range'];refine wpAny_forIn_list _
  (λrest r s'=>r.1=none/\s'=s/\∃i,i<=j/\rest=List.range' i (its.size - i))
  _ ?_ ?_ _ _ ⟨rfl,rfl,0,uM _,?_⟩
 ·rintro k rest r s' ⟨hr,rfl,i,hi,hz⟩;have gi:i<its.size:=by omega
  obtain⟨m,hm⟩:∃m,its.size - i=m+1:=⟨its.size - i - 1,by omega⟩;rw[hm,List.range'_succ]at hz;injection hz with z1 z2;have z1:=z1.symm;subst z1;subst z2;have hg:its[i]? = some its[i]:=by simp[gi]
  simp only[hg];refine wX (he _ (Array.getElem_mem gi) prog w _ _ _ _ ?_);by_cases hij:i=j
  ·subst hij;rw[JK];simp only[if_true];refine wX ?_;show wpAny _ _ (mkInt (i:Int)>>=λv=>ret v) _ _ _;exact wX (wpAny_mkInt (wY (wY (wY h))))
  ·rw[G0 i gi (by omega)];simp only[uW,if_false];exact wY ⟨rfl,rfl,i+1,by omega,by rw[show its.size - (i+1)=m by omega]⟩
 ·rintro⟨r1,r2⟩ s' ⟨hr,rfl,i,hi,hz⟩;exfalso;have:(List.range' i (its.size - i)).length=0:=by rw[←hz];rfl
  rw[List.length_range']at this;omega
 ·simp
end
theorem CRows.findT {K:Frag}{P:Params}(y:Str){ds:List D}:∀ {es:List DictEntry}{aG:List (Str×D)},CRows K P es aG->aG.lookup y=some (.tup ds) ->
  ∃e a its n ni,es.find? (λe=>Value.isStrOf y e.key)=some e/\e.val=.ref a/\K.lookup a=some ⟨.type "tuple",none,.seq its n,ni⟩/\gI its.toList ds=true
 |_,_,.nil,h=>by simp at h
 |_,_,.tup (x:=x) (t:=t) (a:=a) (ds:=AD) hh l f tl,h=>by
  by_cases e:y=x
  ·subst e;rw[List.lookup_cons_self]at h;cases h
   rw[vD]at f;exact⟨_,a,_,_,_,List.find?_cons_of_pos (by simp[Value.isStrOf]),rfl,l,f.2⟩
  ·rw[List.lookup_cons,beq_eq_false_iff_ne.mpr e]at h;have nf:Value.isStrOf y (Value.str x t)=false:=by
    rw[Bool.eq_false_iff];intro z;obtain⟨t',q⟩:=Value.isStrOf_shape z;injection q with q1;exact e q1.symm
   simp only[List.find?_cons,nf];exact tl.findT y h
 |_,_,.flat (x:=x) (t:=t) (u:=u) (d:=d) hh f tl,h=>by
  by_cases e:y=x
  ·subst e;rw[List.lookup_cons_self]at h;cases h
   cases u<;>simp[pJ]at f
  ·rw[List.lookup_cons,beq_eq_false_iff_ne.mpr e]at h;have nf:Value.isStrOf y (Value.str x t)=false:=by
    rw[Bool.eq_false_iff];intro z;obtain⟨t',q⟩:=Value.isStrOf_shape z;injection q with q1;exact e q1.symm
   simp only[List.find?_cons,nf];exact tl.findT y h
section
variable {X:Cx}{b e:Expr}{pos:Pos}{x:Str}{p:Pos}
def K2 (K:Frag):V->List V->Hp->VK->Prop:=λx xs H Q=>∃(a:Addr)(o:Obj)(its:Array Value)(n:Nat)(zs:List Str)(y:Str),x=.ref a/\xs=[.str y]/\K.lookup a=some o/\o.cls=.type "tuple"/\o.data=.seq its n/\StrsAre its.toList zs/\zs.findIdx (· == y)<zs.length/\Q (.int (zs.findIdx (· == y):Nat)) H
noncomputable def D2 (y:Str):Value->Bool
 |.str z _=>z == y
 |_=>false
theorem vw:∀ {its:List Value}{zs:List Str},StrsAre its zs->∀(i:Nat)(hi:i<its.length),∃(h:i<zs.length)(t:Tok),its[i]=.str zs[i] t
 |_,_,.cons z t h,0,_=>⟨by simp,t,rfl⟩
 |_,_,.cons z t h,i+1,hi=>by
  obtain⟨h',t',e⟩:=vw h i (by simpa using hi);exact⟨by simpa using h',t',by simpa using e⟩
 |_,_,.nil,i,hi=>by simp at hi
theorem rm:∀ {its:List Value}{zs:List Str},StrsAre its zs->its.length=zs.length
 |_,_,.nil=>rfl
 |_,_,.cons _ _ h=>by rw[vE,vE,rm h]
theorem z5:ym X "tuple.index" (K2 X.K):=by
 intro aa s σ H x xs v us Q I rx rv h;obtain⟨a,o,its,n,zs,y,rfl,rfl,lk,hc,hd,hz,hk,q⟩:=h;cases rx
 obtain⟨u,rfl,⟨t,rfl⟩⟩:=rv.one;have ho:=I.kIn a o lk;have hl:=rm hz;rw[vG]at hl;have at':∀(i:Nat)(hi:i<its.size),∃(h:i<zs.length)(t:Tok),its[i]=.str zs[i] t:=λi hi=>by
  obtain⟨h',t',e⟩:=vw hz i (by simpa using hi);exact⟨h',t',by simpa using e⟩
 refine wpAny_call_entry PySem.F.slot_tuple_index ⟨o,ho,hc⟩ PySem.F.entry_tuple_index (tN (e:=D2 y) (j:=zs.findIdx (· == y)) ho hd (λz hm=>?_) (by omega) ?_ (λm hm gi=>?_) ⟨_,rfl,.int (zs.findIdx (· == y):Nat),H,I.tok _,⟨_,rfl⟩,q⟩) (PySem.F.args_tuple_index_2 _ _)
 ·obtain⟨i,hi,rfl⟩:=Array.mem_iff_getElem.mp hm;obtain⟨_,t',e'⟩:=at' i hi;rw[e'];exact eqGives_str _ _ _ _
 ·obtain⟨_,t',e'⟩:=at' (zs.findIdx (· == y)) (by omega);rw[e'];exact List.findIdx_getElem (p:=(· == y)) (w:=hk)
 ·obtain⟨_,t',e'⟩:=at' m hm;rw[e'];have:=List.not_of_lt_findIdx (p:=(· == y)) (xs:=zs) gi;simpa [D2]using this
@[simp] def mj (aG:List (Str×D)):D->D->OB
 |.str y,.str z=>match aG.lookup y with
  |some (.tup ds)=>(fO ds).bind λzs=>if zs.findIdx (· == z)<zs.length then some (.int (zs.findIdx (· == z):Nat),false)else none
  |_=>none
 |_,_=>none
theorem Cg {aG:List (Str×D)}{f g:FE}{dq ce:Pos}(h:∃d,X.mg x=some (.ref d)/\jD X.K X.w.params d aG)(hb:JE X b f)(he:JE X e g)(hg:Gl X x:=by rfl)(sI:(x == ("__debug__" : Str))=false:=by decide)(hs:lu b:=by intro _ _;rfl)
  (gD:attributeBase (.Subscript (.Name x p) b pos) "index" X.env (eval (.Subscript (.Name x p) b pos) X.env)=eval (.Subscript (.Name x p) b pos) X.env:=by rfl)
  (qr:((backTo ce (starEach [e] X.env)).all (λx=>!x.1) && (backToKw ce (keywordEach [] X.env)).all (λx=>x.1.isSome)
   && decide ([e].length+([]:List Keyword).length+(if([]:List Keyword).isEmpty then 0 else 1)<30))=true:=by rfl)
  (gE:(dq.endLine == ce.line)=true:=by rfl) (lg:starEach [e] X.env=[(false,eval e X.env)]:=by rfl):
  JE X (.Call (.Attribute (.Subscript (.Name x p) b pos) "index" dq) [e] [] ce) (f2 (mj aG) f g):=by
 obtain⟨d,hm,cd⟩:=h;have ix:yA X (λx y H Q=>∃z ds,x=.ref d/\y=.str z/\aG.lookup z=some (.tup ds)/\∀a its n ni,X.K.lookup a=some ⟨.type "tuple",none,.seq its n,ni⟩->gI its.toList ds=true->Q (.ref a) H):=by
  intro value slice aa s σ H x y v u Q I rx ry q hs;obtain⟨z,ds,rfl,rfl,el,q⟩:=q;cases rx
  obtain⟨t,rfl⟩:=ry;obtain⟨es,n,l,r,sm⟩:=cd;have hM:=PySem.W.mapOf_K (prog:=X.prog) (w:=X.w) I.kIn l r.lit;obtain⟨en,a,its,n',ni,e1,e2,e3,e4⟩:=r.findT z el;have ff:findBy Value.isStrOf es z=some (.ref a):=by
   unfold findBy;obtain⟨es⟩:=es;rw[List.find?_toArray,e1,←e2];rfl
  exact tail_any hM.typeIs slot_dict_getitem.lookup (wpAny_getItem_of (strKind_is X.prog X.w z t) hM ff ⟨.ref a,H,I.tok _,rfl,q a _ _ _ e3 e4⟩) hs
 refine PE.to (u9 (T:="tuple") PySem.F.plainAttrs_tuple PySem.F.slot_tuple_index PySem.F.type_tuple_index z5 (yB ix (ls (v:=.ref d) hg hm rfl sI) hb hs) (eN he gG lg) gD qr gE lg rfl) λσ H Q q=>?_;obtain⟨B,ρ,d',bb,sB,r,ee,q⟩:=q;obtain⟨x1,ex,ee⟩:=oX ee;obtain⟨y1,ey,ee⟩:=oX ee;obtain⟨xd,xb⟩:=x1;obtain⟨yd,yb⟩:=y1;cases xd with
 |str z=>
  cases yd with
  |str y=>
   refine⟨B,ρ,_,xb,sB,r,ex,λv H1 N1 xt i1 _=>?_⟩;cases i1
   simp only[mj]at ee;split at ee
   ·rename_i ds el;obtain⟨zs,ez,ee⟩:=oX ee;split at ee
    ·rename_i hk;cases ee
     refine⟨z,ds,rfl,rfl,el,λa its n ni l fl=>⟨.inr (.inl ⟨rfl,_,l,rfl,rfl⟩),N1,ρ,_,yb,xt.nh,r.mono xt.bn,ey,λv2 H2 N2 ww i2 _=>?_⟩⟩;cases i2
     obtain⟨vs,rv,iv⟩:=gJ (K:=X.K) fl;exact⟨a,_,its,n,zs,y,rfl,rfl,l,rfl,rfl,gs rv (iv N2) ez,hk,(q.into (xt.trans ww)).one ww.nh (.int _)⟩
    ·cases ee
   ·cases ee
  |_=>simp[mj]at ee
 |_=>simp[mj]at ee
end
open PySem.W (tabIn tabObj CodeHd kla_fn kla_obj kla_eval kla_makeFunction kla_makeFunctionHit kla_callFunE kla_codeExpr envX)
section
variable {P:Program}{w:World}{K:Frag}{mg:Str->Option Value}{base:Heap}
theorem dw.fnL {x:Str}{st:Stmt}{N ps:List Str}{k:Nat}{g:FS}{h:Heap}(F:dw K x st)(X:K.In h)(G:h.Ns mainGlobals mg)(S:FnScope N ps (aB st))
  (CV:∀(kV doc pm:Value)(an:Option Addr)(de ct:Value)(us:List Value),us.length=ps.length->bindArgs (fnOf x x (dX st) (bU st) (aB st) .none kV doc pm an de ct) ⟨us,[]⟩=pure (ps.zip us))
  (hb:∀(f:Addr)(de:Value)(A:Around)(outer:List PySem.Env)(s:Shared)(H:Hp)(E:XK),(∀c P,tabIn K x=some (c,P)->de=.ref c)->eJ k (A.deeper (envOfC x (aB st) s.heap.objs.size f de))->pA (lh sM P w K mg base N x (aB st) f de A outer s H E).nox (bU st) g):
  Fn P w K mg base (k+1) x (aI g ps.length (N.length - ps.length)):=by
 obtain⟨f,fd,F1,a⟩:=F;have F2:=F1;obtain⟨oc,od,kV,doc,pm,an,de,ct,ni,rfl,lk,lB⟩:=F2.ex;have hc:∀c P,tabIn K x=some (c,P)->de=.ref c:=λc P e=>by
  unfold tabIn at e;simp only[a,lk]at e;split at e
  ·rename_i c' _;split at e
   ·split at e
    ·cases e;rfl
    ·cases e
   ·cases e
  ·cases e
 have len:∀vs H Q E,BR K (aI g ps.length (N.length - ps.length)) vs H Q E->vs.length=ps.length:=λvs H Q E h=>by
  obtain⟨B,ds,d,b,sB,i,e,q⟩:=h;unfold aI at e;split at e
  ·rename_i hl;rw[i.length];exact hl
  ·cases e
 refine⟨f,_,ps,Dl lk lB S len λA outer s H vs Q E hr h=>⟨_,pv.nox (hb f de A outer s H E hc hr),?_⟩,mg_of X G a,F1.kp,F1.binds CV⟩;have bD:=len vs H Q E h;obtain⟨B,ds,d,b,sB,i,e,q⟩:=h;unfold aI at e;rw[if_pos (by rw[←i.length];exact bD)]at e;have s0:=qI (N:=N) sB.1 sB.2 i;rw[bD]at s0;split at e
 ·rename_i d' b' eg;cases e
  exact⟨B,H,_,_,⟨B,s0⟩,eg,λv H' N' x' i' f'=>q v H' N' x' i' f'⟩
 ·rename_i ρ' eg;cases e
  exact⟨B,H,_,_,⟨B,s0⟩,eg,λσ' H' ⟨N',s'⟩=>q .non H' N' s'.ext .non (by simp)⟩
 ·cases e
end
inductive mU (X:Cx)(N':List Str)(scope:Scope)(cl:List (Str×Addr)):Nat->List Nat->Prop where
 |nil {j:Nat}(h:N'.length=j):mU X N' scope cl j []
 |cons {j i:Nat}{r:List Nat}{x:Str}(h1:N'[j]? = some x) (h2:X.N[i]? = some x) (h3:X.env.kindOf x=some .cell∨X.env.kindOf x=some .free)
   (h4:scope.names.lookup x=some .free) (h5:cl.lookup x=X.env.cells.lookup x) (t:mU X N' scope cl (j+1) r):mU X N' scope cl j (i::r)
theorem mU.len:∀ {j:Nat}{cap:List Nat},mU X N' scope cl j cap->N'.length=j+cap.length
 |_,_,.nil h=>by rw[h];rfl
 |j,i::r,.cons _ _ _ _ _ t=>by rw[t.len,vE];omega
theorem mU.get:∀ {j:Nat}{cap:List Nat}{k i:Nat},mU X N' scope cl j cap->cap[k]? = some i->∃x,N'[j+k]? = some x/\X.N[i]? = some x/\(X.env.kindOf x=some .cell∨X.env.kindOf x=some .free) /\
  scope.names.lookup x=some .free/\cl.lookup x=X.env.cells.lookup x
 |_,_,_,_,.nil _,e=>by simp at e
 |j,_,0,_,.cons h1 h2 h3 h4 h5 _,e=>by simp at e;subst e;exact⟨_,h1,h2,h3,h4,h5⟩
 |j,_,k+1,i,.cons _ _ _ _ _ t,e=>by
  obtain⟨x,q,r⟩:=t.get (k:=k) (i:=i) (by simpa using e);exact⟨x,by rw[show j+(k+1)=j+1+k by omega];exact q,r⟩
end DL
namespace DL
open PySem PySem.Spec PySem.W PyProof.Rows L2
noncomputable def HU (f:D->Option D):List D->Option (List D)
 |[]=>some []
 |d::ds=>(f d).bind λx=>(HU f ds).map (x :: ·)
def z6 (ks:List (List At))(ds:List D):List D:=(HN (λp:List At×D=>HP p.1) (ks.zip ds)).map (·.2)
@[simp] def z7 (kd:List D->Option (List (List At)))(ok:List (List At)->Bool)(f:FE)(kf:Env->D->Option D):FE:=λρ=>(f ρ).bind λx=>match x.1 with
 |.lst ds=>(HU (kf ρ) ds).bind λPc=>(kd Pc).bind λks=>if ks.length<64/\HQ ks=true/\ok ks=true/\(ks.map HP).Nodup then some (.lst (z6 ks ds),true)else none
 |_=>none
@[simp] abbrev K3:FE->(Env->D->Option D)->FE:=z7 D1 z4
section
variable {prog:Program}{w:World}{A:Around}{E:Value->Shared->Prop}{s:Shared}{op:CmpOp}
theorem HR.type (h:HR s.heap xs v):s.TypeIs v "tuple":=by
 obtain⟨a,o,its,n,rfl,ho,hc,_⟩:=h;exact⟨o,ho,hc⟩
end
section
variable {X:Cx}{a b:Expr}{p pos:Pos}
@[simp] def lx (f g:FE):FA:=λρ=>(f ρ).bind λx=>(g ρ).bind λy=>match x.1,y.1 with
 |.int i,.int j=>if -1000<=i/\i<=1000/\-1000<=j/\j<=1000 then some (cG i (j - i).toNat)else none
 |_,_=>none
theorem xp (hm:X.mg "range" = none)(h:JE X a f)(h':JE X b g)(hg:Gl X "range":=by rfl)(hs:starEach [a,b] X.env=[(false,eval a X.env),(false,eval b X.env)]:=by rfl)(j0:starEach [b] X.env=[(false,eval b X.env)]:=by rfl):PI X tg (.Call (.Name "range" p) [a,b] [] pos) (Gm X.K (lx f g)):=by
 refine PI.to (wG hg hm (ag h (ag h' ah j0) (by rw[hs,j0])) hs j0) λσ H R q=>?_;obtain⟨B,ρ,ds,sB,r,e',q⟩:=q;obtain⟨⟨x,xb⟩,ex,e'⟩:=oX e';obtain⟨⟨y,yb⟩,ey,e'⟩:=oX e';match x,y,ex,ey,e' with
 |.int i,.int j,ex,ey,e'=>
  dsimp only at e';split at e'
  ·rename_i hj;cases e'
   refine⟨B,ρ,[.int i,.int j],sB,r,by simp[ac,ai,ex,ey],λvs H1 N1 x1 i1=>?_⟩;cases i1 with
   |cons i1 i2=>
    cases i1
    cases i2 with
    |cons i2 i3=>
     cases i2;cases i3
     exact⟨i,j,rfl,by omega,q _ H1 N1 x1 λ_=>qQ i (j - i).toNat⟩
  ·cases e'
end
end DL
namespace DL
open PySem PySem.Spec PyProof.Rows L2
section
variable {X:Cx}
@[simp] def pV:List D->OB
 |[d,.tup [.ty n,.ty m]]=>if qP d=true then none else if n = "list"/\m = "tuple" then some (.bl (ft d == "list" || ft d == "tuple"),false)else none
 |_=>none
theorem xq (K:Frag)(d:D)(hd:∀n,d≠.ty n):PySem.W.kitAny K (.type (ft d)) [.type "list",.type "tuple"]=some (ft d == "list" || ft d == "tuple"):=by
 obtain⟨_,_,_,k4,k5⟩:=ze K d hd;unfold PySem.W.kitAny;rw[k4];cases ft d == "list" with
 |true=>rfl
 |false=>
  unfold PySem.W.kitAny;rw[k5];cases ft d == "tuple" with
  |true=>rfl
  |false=>rfl
theorem z8 (I:Inv X aa σ H s)(i:Is X.K H v d)(hd:∀n,d≠.ty n)(rx:aK v u)(ht:IsTup s.heap tp its.toArray)(e:PySem.W.kitAny X.K (.type (ft d)) its=some b)(h:∀tk,Q (.bool b) { s with toks:=tk }):
  wpAny (model X.prog X.w) A (call (.builtin "isinstance") [u,.ref tp]) Q E s:=by
 obtain⟨⟨cls,dd,data,sl⟩,ho,hc,n,Nm⟩:=id ht;dsimp only at hc Nm;subst hc;subst Nm;cases i with
 |non=>cases (show u=Value.none from rx);exact PySem.W.kia_tup PySem.W.kitx_none I.kIn True.intro ho e (λz=>nomatch z) h
 |bl y=>cases (show u=Value.bool y from rx);exact PySem.W.kia_tup PySem.W.kitx_bool I.kIn True.intro ho e (λz=>nomatch z) h
 |int i=>obtain⟨t,q⟩:=(show ∃t,u=Value.int i t from rx);cases q;exact PySem.W.kia_tup PySem.W.kitx_int I.kIn True.intro ho e (λz=>nomatch z) h
 |str y=>obtain⟨t,q⟩:=(show ∃t,u=Value.str y t from rx);cases q;exact PySem.W.kia_tup PySem.W.kitx_str I.kIn True.intro ho e (λz=>nomatch z) h
 |ty n=>exact absurd rfl (hd n)
 |dk h1 _ _=>
  cases rx
  obtain⟨_,_,_,vs,_,o,es,ep,e1,e2,_⟩:=(show br X.prog X.w H s.heap _ (.dK _ _)from I.hok _ _ h1);exact PySem.W.kia_tup PySem.W.kitx_dict I.kIn ⟨o,e1,e2.1⟩ ho e (λz=>nomatch z) h
 |dt h1 _ _=>
  cases rx
  obtain⟨_,_,xs,_,o,es,ep,e1,e2,_⟩:=(show br X.prog X.w H s.heap _ (.dT _)from I.hok _ _ h1);exact PySem.W.kia_tup PySem.W.kitx_dict I.kIn ⟨o,e1,e2.1⟩ ho e (λz=>nomatch z) h
 |tup ht _=>
  cases rx
  obtain⟨its,_,⟨o,h1,h2,_⟩,_⟩:=I.tuple ht;exact PySem.W.kia_tup PySem.W.kitx_tuple I.kIn ⟨o,h1,h2⟩ ho e (λz=>nomatch z) h
 |lst hl _=>
  cases rx
  obtain⟨its,_,⟨o,n,h1,h2,_⟩,_⟩:=I.list hl;exact PySem.W.kia_tup PySem.W.kitx_list I.kIn ⟨o,h1,h2⟩ ho e (λz=>nomatch z) h
theorem xr:bG X (.builtin "isinstance") (yn X.K pV):=by
 intro aa s σ H xs us Q I rs q;obtain⟨B,ds,d,b,sB,i,e,q⟩:=q;match ds,i,e with
 |[dx,.tup [.ty n,.ty m]],.cons i1 (.cons i2 .nil),e=>
  obtain⟨u1,u2,rfl,r1,r2⟩:=y3 rs;simp only[pV]at e;split at e
  ·cases e
  ·rename_i ht;have hd:∀n,dx≠.ty n:=λn z=>by subst z;exact ht rfl
   split at e
   ·rename_i hh;obtain⟨rfl,rfl⟩:=hh;cases e
    cases i2 with
    |tup hs hl=>
     cases hl with
     |cons j1 hl=>
      cases hl with
      |cons j2 hl=>
       cases hl
       cases j1
       cases j2
       cases r2
       obtain⟨its,rv,p,_⟩:=I.tuple (aQ sB hs);obtain⟨w1,w2,rfl,Pd,Pe⟩:=rv.two;cases Pd
       cases Pe
       exact z8 I (i1.mono sB) hd r1 p (xq X.K dx hd) λtk=>⟨.bl _,H,I.tok tk,rfl,q.one sB (.bl _)⟩
   ·cases e
end
@[simp] noncomputable def rq:D->Option dL
 |.int i=>some (.inl i)
 |.str x=>some (.inr x)
 |_=>none
theorem HV {K:Frag}{B:Hp}{v:V}{d:D}{k:dL}(i:Is K B v d)(e:rq d=some k):v=kV k:=by
 cases i<;>simp only[rq]at e<;>cases e<;>rfl
noncomputable def kU {κ:Type}[DecidableEq κ]:List κ->List D->κ->Option D
 |k'::ks,d::ds,k=>if k'=k then some d else kU ks ds k
 |_,_,_=>none
theorem z9 {κ:Type}[DecidableEq κ]{K:Frag}{B:Hp}(k:κ):∀ {ks:List κ}{vs:List V}{ds:List D},ks.length=vs.length->IsL K B vs ds ->
  (∃v d,kq (ks.zip vs) k=some v/\kU ks ds k=some d/\Is K B v d)∨(kq (ks.zip vs) k=none/\kU ks ds k=none)
 |[],vs,ds,_,_=>.inr ⟨by cases vs<;>rfl,by cases ds<;>rfl⟩
 |k'::ks,[],_,h,_=>by simp at h
 |k'::ks,v::vs,_,h,.cons i is=>by
  rw[List.zip_cons_cons];unfold kU;by_cases e:k'=k
  ·rw[if_pos e];exact .inl ⟨v,_,lN (p:=(k',v)) e,rfl,i⟩
  ·rw[if_neg e,lO (p:=(k',v)) e];exact z9 k (by simpa using h) is
section
variable {X:Cx}{o e i:Expr}{pos:Pos}
@[simp] def Qp:D->D->OB
 |.dk ks vs,y=>(rq y).bind λk=>(kU ks vs k).map λd=>(d,false)
 |_,_=>none
@[simp] def Qq:D->D->OB
 |y,.dk ks vs=>(rq y).map λk=>(.bl (kU ks vs k).isSome,false)
 |_,_=>none
end
section
variable {prog:Program}{w:World}{A:Around}{E:Value->Shared->Prop}{s:Shared}
abbrev kC (h:Heap)(z TI TO T0:Addr)(f:Bool):Prop:=h.get? z=some { cls:=.type "zip",dict:=none,data:=.fields #[rawInt T0,.bool f,.bool false,.ref TI,.ref TO],slots:=#[] }
theorem zF (e:s.heap.get? a=some o)(h:Q (some o) s):wpAny (model prog w) A (loadIfAlive a) Q E s:=by
 intro Γ p hΓ;unfold loadIfAlive;simp only[Sem.wp];rw[e];exact h
theorem ou {z TI TO T0:Addr}{f:Bool}{oT:Obj}{Q:Bool->Shared->Prop}(hz:kC s.heap z TI TO T0 f)(hT:s.heap.get? T0=some oT)
  (q:∀h',kC h' z TI TO T0 true->Heap.SameBut z s.heap h'->Q false { s with heap:=h' }):wpAny (model prog w) A (Builtin.SmallTypes.ownedTupleIsFree (.ref z)) Q E s:=by
 unfold Builtin.SmallTypes.ownedTupleIsFree;refine wX (wpAny_field hz rfl (x:=rawInt T0) rfl ?_);show wpAny _ _ (loadIfAlive ((T0:Int).toNat)>>=_) _ _ _;rw[Int.toNat_natCast];refine wX (zF hT ?_);simp only[Option.isNone_some,uW,if_false];refine wX (wpAny_field hz rfl (x:=.bool f) rfl ?_);cases f with
 |true=>
  rw[if_neg (show ¬((Value.bool true != Value.bool true)=true)from uY)];exact wY (q s.heap hz (.refl _ _))
 |false=>
  rw[if_pos (show((Value.bool false != Value.bool true)=true)from rfl)];refine wX (wpAny_setField_rec hz (by simp) λh' hz' s'=>wY (q h' hz' s'))
end
section
variable {prog:Program}{w:World}{A:Around}{E:Value->Shared->Prop}{s:Shared}
theorem xu {k1 k2:Bool}{z TI TO T0 i1 i2 l1 l2:Addr}{f:Bool}{oT:Obj}{j:Nat}{xs ys:Array Value}{x y:Value}{Q:Value->Shared->Prop}(D:ZApart z TI TO i1 i2)(m1:l1≠z/\l1≠TO/\l1≠i1)(m2:l2≠z/\l2≠TO/\l2≠i1/\l2≠i2)
  (hz:kC s.heap z TI TO T0 f) (hT:s.heap.get? T0=some oT) (hI:IsPair s.heap TI (.ref i1) (.ref i2)) (t1:jz k1 s.heap i1 l1 j) (t2:jz k2 s.heap i2 l2 j) (q1:jo k1 s.heap l1 xs) (q2:jo k2 s.heap l2 ys) (hx:xs[j]? = some x) (hy:ys[j]? = some y)
  (q:∀h',kC h' z TI TO T0 true->jz k1 h' i1 l1 (j+1)->jz k2 h' i2 l2 (j+1)->IsPair h' s.heap.objs.size x y ->
   (∀c o,c≠z->c≠i1->c≠i2->s.heap.get? c=some o->h'.get? c=some o)->Q (.ref s.heap.objs.size) { s with heap:=h' }):
  wpAny (model prog w) A (Builtin.«zip.__next__» ⟨[.ref z],[]⟩) (λhW s'=>∃v,hW=.done (.ret v)/\Q v s') E s:=by
 show wpAny _ _ (field (.ref z) 2>>=_) _ _ s;refine wX (wpAny_field hz rfl (x:=.bool false) rfl ?_);show wpAny _ _ (field (.ref z) 3>>=_) _ _ s;refine wX (wpAny_field hz rfl (x:=.ref TI) rfl (wX (wpAny_seqItems hI rfl ?_)));show wpAny _ _ (Builtin.SmallTypes.ownedTupleIsFree (.ref z)>>=_) _ _ s;refine wX (ou hz hT λg1 hz1 s1=>?_);simp only[uW,if_false];refine wX ?_;simp only[←Array.forIn_toList,List.forIn_cons,List.forIn_nil];refine wX (wX (wpAny_holding ?_));show wpAny _ _ (Builtin.SmallTypes.nextOf (.ref i1)>>=_) _ _ { s with heap:=g1 };refine wX (eV (s:={ s with heap:=g1 }) (t1.upon λo e=>s1.extBut _ _ D.az e) (q1.upon λo e=>s1.extBut _ _ m1.1 e) hx λg2 t12 s2=>wY ?_);refine wY (wX (wX (wpAny_holding ?_)));show wpAny _ _ (Builtin.SmallTypes.nextOf (.ref i2)>>=_) _ _ { s with heap:=g2 };have FZ:∀ {c o},c≠z->c≠i1->s.heap.get? c=some o->g2.get? c=some o:=λc1 c3 e=>s2.extBut _ _ c3 (s1.extBut _ _ c1 e);refine wX (eV (s:={ s with heap:=g2 }) (t2.upon λo e=>FZ D.bz D.ab.symm e) (q2.upon λo e=>FZ m2.1 m2.2.2.1 e) hy λg4 t24 s4=>wY ?_);refine wY (wY ?_);refine wX (wpAny_newTuple (hsz:=(by decide:2<=sizeLine)) ?_);have sz:g4.objs.size=s.heap.objs.size:=by rw[s4.1,s2.1,s1.1]
 have Pf:∀c o,c≠z->c≠i1->c≠i2->s.heap.get? c=some o->g4.get? c=some o:=λc o c1 c3 c4 e=>s4.extBut _ _ c4 (FZ c1 c3 e);refine wY ⟨_,rfl,?_⟩;show Q (.ref g4.objs.size) { s with heap:=g4.push { cls:=.type "tuple",data:=.seq #[x,y] } };have hp:IsPair (g4.push { cls:=.type "tuple",data:=.seq #[x,y] }) g4.objs.size x y:=vY _ rfl;rw[sz]at hp ⊢;exact q _ (vZ _ (s4.extBut _ _ D.bz.symm (s2.extBut _ _ D.az.symm hz1))) (t12.upon λo e=>vZ _ (s4.extBut _ _ D.ab e)) (t24.upon λo e=>vZ _ e) hp λc o c1 c3 c4 e=>vZ _ (Pf c o c1 c3 c4 e)
theorem zG {k1 k2:Bool}{z TI TO T0 i1 i2 l1 l2:Addr}{f:Bool}{oT:Obj}{j:Nat}{xs ys:Array Value}{Q:PySem.Fin->Shared->Prop}(hA:A.handled=none)(D:ZApart z TI TO i1 i2)(m1:l1≠z/\l1≠TO/\l1≠i1)(m2:l2≠z/\l2≠TO/\l2≠i1/\l2≠i2)
  (hz:kC s.heap z TI TO T0 f) (hT:s.heap.get? T0=some oT) (hI:IsPair s.heap TI (.ref i1) (.ref i2)) (t1:jz k1 s.heap i1 l1 j) (t2:jz k2 s.heap i2 l2 j) (q1:jo k1 s.heap l1 xs) (q2:jo k2 s.heap l2 ys) (he:xs[j]? = none∨ys[j]? = none)
  (q:∀h' x,(∀c o,c≠z->c≠i1->c≠i2->s.heap.get? c=some o->h'.get? c=some o)->(∃o,h'.get? x=some o/\o.cls=.type "StopIteration")->E (.ref x) { s with heap:=h' }):
  wpAny (model prog w) A (Builtin.«zip.__next__» ⟨[.ref z],[]⟩) Q E s:=by
 show wpAny _ _ (field (.ref z) 2>>=_) _ _ s;refine wX (wpAny_field hz rfl (x:=.bool false) rfl ?_);show wpAny _ _ (field (.ref z) 3>>=_) _ _ s;refine wX (wpAny_field hz rfl (x:=.ref TI) rfl (wX (wpAny_seqItems hI rfl ?_)));show wpAny _ _ (Builtin.SmallTypes.ownedTupleIsFree (.ref z)>>=_) _ _ s;refine wX (ou hz hT λg1 hz1 s1=>?_);simp only[uW,if_false];refine wX ?_;simp only[←Array.forIn_toList,List.forIn_cons,List.forIn_nil];refine wX (wX (wpAny_holding ?_));show wpAny _ _ (Builtin.SmallTypes.nextOf (.ref i1)>>=_) _ _ { s with heap:=g1 };cases hx:xs[j]? with
 |none=>
  exact wX (jB (s:={ s with heap:=g1 }) hA (t1.upon λo e=>s1.extBut _ _ D.az e) (q1.upon λo e=>s1.extBut _ _ m1.1 e) hx λg2 x s2 hX=>q g2 x (λc o c1 c3 _ e=>s2 _ _ c3 (s1.extBut _ _ c1 e)) hX)
 |some v=>
  have hy:ys[j]? = none:=by
   rcases he with h|h
   ·rw[hx]at h;cases h
   ·exact h
  refine wX (eV (s:={ s with heap:=g1 }) (t1.upon λo e=>s1.extBut _ _ D.az e) (q1.upon λo e=>s1.extBut _ _ m1.1 e) hx λg2 t12 s2=>wY ?_);refine wY (wX (wX (wpAny_holding ?_)));show wpAny _ _ (Builtin.SmallTypes.nextOf (.ref i2)>>=_) _ _ { s with heap:=g2 };have FZ:∀ {c o},c≠z->c≠i1->s.heap.get? c=some o->g2.get? c=some o:=λc1 c3 e=>s2.extBut _ _ c3 (s1.extBut _ _ c1 e);exact wX (jB (s:={ s with heap:=g2 }) hA (t2.upon λo e=>FZ D.bz D.ab.symm e) (q2.upon λo e=>FZ m2.1 m2.2.2.1 e) hy λg4 x s4 hX=>q g4 x (λc o c1 c3 c4 e=>s4 _ _ c4 (FZ c1 c3 e)) hX)
end
structure ZA (k1 k2:Bool)(z TI TO i1 i2 l1 l2:Addr):Prop where
 D:ZApart z TI TO i1 i2
 m1:l1≠z/\l1≠TO/\l1≠i1
 m2:l2≠z/\l2≠TO/\l2≠i1/\l2≠i2
def zH (k1 k2:Bool)(z TI TO i1 i2 l1 l2 S:Addr)(i:Nat)(h:Heap):Prop :=
 IsPair h TI (.ref i1) (.ref i2)/\jz k1 h i1 l1 i/\jz k2 h i2 l2 i/\((IsZip h z TI TO .none/\∃a b,IsPair h TO a b)∨∃T0 f oT oO,kC h z TI TO T0 f/\h.get? T0=some oT/\T0∉[z,TI,TO,i1,i2]/\T0≠S/\h.get? TO=some oO)
theorem zH.keep {k1 k2:Bool}{z TI TO i1 i2 l1 l2 S:Addr}{i:Nat}{h h':Heap}(st:zH k1 k2 z TI TO i1 i2 l1 l2 S i h)(hS:S∉[z,TI,TO,i1,i2])(k:∀b o,b≠S->h.get? b=some o->h'.get? b=some o):zH k1 k2 z TI TO i1 i2 l1 l2 S i h':=by
 obtain⟨a1,a2,a3,a4⟩:=st;have n:∀ {b},b∈[z,TI,TO,i1,i2]->b≠S:=λhb e=>hS (e ▸ hb);refine⟨k _ _ (n (by simp)) a1,a2.upon λo e=>k _ o (n (by simp)) e,a3.upon λo e=>k _ o (n (by simp)) e,?_⟩;rcases a4 with⟨b1,a,b,b2⟩|⟨T0,f,oT,oO,b1,b2,b3,b4,b5⟩
 ·exact .inl ⟨k _ _ (n (by simp)) b1,a,b,k _ _ (n (by simp)) b2⟩
 ·exact .inr ⟨T0,f,oT,oO,k _ _ (n (by simp)) b1,k _ _ b4 b2,b3,b4,k _ _ (n (by simp)) b5⟩
section
variable {prog:Program}{w:World}{A:Around}{E:Value->Shared->Prop}{s:Shared}{k1 k2:Bool}{z TI TO i1 i2 l1 l2 S:Addr}{j:Nat}{xs ys:Array Value}
theorem zH.ty (st:zH k1 k2 z TI TO i1 i2 l1 l2 S j h):∃o,h.get? z=some o/\o.cls=.type "zip":=by
 obtain⟨_,_,_,a4⟩:=st;rcases a4 with⟨b1,_⟩|⟨T0,f,oT,oO,b1,_⟩
 ·exact⟨_,b1,rfl⟩
 ·exact⟨_,b1,rfl⟩
theorem zI (Z:ZA k1 k2 z TI TO i1 i2 l1 l2)(hS:S<s.heap.objs.size)(st:zH k1 k2 z TI TO i1 i2 l1 l2 S j s.heap)(q1:jo k1 s.heap l1 xs)(q2:jo k2 s.heap l2 ys)(hx:xs[j]? = some x)(hy:ys[j]? = some y)
  (q:∀h',zH k1 k2 z TI TO i1 i2 l1 l2 S (j+1) h'->IsPair h' s.heap.objs.size x y->(∀c o,c∉[z,TI,TO,i1,i2]->s.heap.get? c=some o->h'.get? c=some o)->Q (some (.ref s.heap.objs.size)) { s with heap:=h' }):
  wpAny (model prog w) A (pyNext (.ref z)) Q E s:=by
 have hT:s.TypeIs (.ref z) "zip":=st.ty;obtain⟨hI,t1,t2,a4⟩:=st;have lt:∀ {c o},s.heap.get? c=some o->s.heap.objs.size≠c:=λe=>Nat.ne_of_gt (vX e);obtain⟨o1,e1,_⟩:=t1.ob;obtain⟨o2,e2,_⟩:=t2.ob;unfold pyNext;rcases a4 with⟨hz,a,b,hO⟩|⟨T0,f,oT,oO,hz,h0,n0,nS,hO⟩
 ·refine wX (wpAny_attempt (wpAny_callSpecial?_slot (name:=Str.ofString "__next__") hT PySem.F.slot_zip_next (wpAny_call_entry PySem.F.slot_zip_next hT PySem.F.entry_zip_next (qU Z.D Z.m1 Z.m2 hz hI hO t1 t2 q1 q2 hx hy λh' b1 b2 b3 b4 b5 b6 bk=>wY ?_) (PySem.F.args_zip_next_1 _))));refine q h' ⟨bk _ _ Z.D.tz Z.D.to Z.D.ta Z.D.tb hI,b3,b4,.inr ⟨_,false,_,_,b1,b5,?_,Nat.ne_of_gt hS,b2⟩⟩ b5 λc o hc e=>bk c o (λz=>hc (by simp[z])) (λz=>hc (by simp[z])) (λz=>hc (by simp[z])) (λz=>hc (by simp[z])) e;simp only[List.mem_cons,List.not_mem_nil,or_false,not_or];exact⟨lt hz,lt hI,lt hO,lt e1,lt e2⟩
 ·refine wX (wpAny_attempt (wpAny_callSpecial?_slot (name:=Str.ofString "__next__") hT PySem.F.slot_zip_next (wpAny_call_entry PySem.F.slot_zip_next hT PySem.F.entry_zip_next (xu Z.D Z.m1 Z.m2 hz h0 hI t1 t2 q1 q2 hx hy λh' b1 b3 b4 b5 bk=>wY ?_) (PySem.F.args_zip_next_1 _))));exact q h' ⟨bk _ _ Z.D.tz Z.D.ta Z.D.tb hI,b3,b4,.inr ⟨T0,true,oT,oO,b1,bk _ _ (λz=>n0 (by simp[z])) (λz=>n0 (by simp[z])) (λz=>n0 (by simp[z])) h0,n0,nS,bk _ _ Z.D.oz Z.D.oa Z.D.ob hO⟩⟩ b5 λc o hc e=>bk c o (λz=>hc (by simp[z])) (λz=>hc (by simp[z])) (λz=>hc (by simp[z])) e
theorem zJ (hA:A.handled=none)(Z:ZA k1 k2 z TI TO i1 i2 l1 l2)(st:zH k1 k2 z TI TO i1 i2 l1 l2 S j s.heap)(q1:jo k1 s.heap l1 xs)(q2:jo k2 s.heap l2 ys)(he:xs[j]? = none∨ys[j]? = none)
  (q:∀h',(∀c o,c∉[z,TI,TO,i1,i2]->s.heap.get? c=some o->h'.get? c=some o)->Q none { s with heap:=h' }):wpAny (model prog w) A (pyNext (.ref z)) Q E s:=by
 have hT:s.TypeIs (.ref z) "zip":=st.ty;obtain⟨hI,t1,t2,a4⟩:=st;unfold pyNext;rcases a4 with⟨hz,a,b,hO⟩|⟨T0,f,oT,oO,hz,h0,n0,nS,hO⟩
 ·refine wX (wpAny_attempt (wpAny_callSpecial?_slot (name:=Str.ofString "__next__") hT PySem.F.slot_zip_next (wpAny_call_entry PySem.F.slot_zip_next hT PySem.F.entry_zip_next (vn hA Z.D Z.m1 Z.m2 hz hI hO t1 t2 q1 q2 he λh' x hk hX=>?_) (PySem.F.args_zip_next_1 _))));obtain⟨o,eo,co⟩:=hX;exact wX (wpAny_isInstance (T:="StopIteration") (b:=true) ⟨o,eo,co⟩ isSubtype_stop (wY (q h' λc o hc e=>hk c o (λz=>hc (by simp[z])) (λz=>hc (by simp[z])) (λz=>hc (by simp[z])) (λz=>hc (by simp[z])) e)))
 ·refine wX (wpAny_attempt (wpAny_callSpecial?_slot (name:=Str.ofString "__next__") hT PySem.F.slot_zip_next (wpAny_call_entry PySem.F.slot_zip_next hT PySem.F.entry_zip_next (zG hA Z.D Z.m1 Z.m2 hz h0 hI t1 t2 q1 q2 he λh' x hk hX=>?_) (PySem.F.args_zip_next_1 _))));obtain⟨o,eo,co⟩:=hX;exact wX (wpAny_isInstance (T:="StopIteration") (b:=true) ⟨o,eo,co⟩ isSubtype_stop (wY (q h' λc o hc e=>hk c o (λz=>hc (by simp[z])) (λz=>hc (by simp[z])) (λz=>hc (by simp[z])) e)))
end
theorem zK (h:a≠b):upd (upd H a o) b u=upd (upd H b u) a o:=by
 funext c;unfold upd;by_cases h1:c=b
 ·by_cases h2:c=a
  ·exact absurd (h2.symm.trans h1) h
  ·rw[if_pos h1,if_neg h2,if_pos h1]
 ·rw[if_neg h1];by_cases h2:c=a
  ·rw[if_pos h2,if_pos h2]
  ·rw[if_neg h2,if_neg h2,if_neg h1]
theorem r6 (h:H a=none):aM H (upd H a o):=λb u e=>by rw[a9 (bx e h)];exact e
theorem xw (h:(fu ds es)[i]? = some d):(fu ds es).take (i+1)=(fu ds es).take i++[d]:=by
 rw[List.take_add_one,h];rfl
theorem tO:typeLookup (.type "zip") "__len__" = pure none:=by rw[typeLookup_type,builtinLookup_eq_fast];kernel_rfl
theorem rA:typeLookup (.type "zip") "__length_hint__" = pure none:=by rw[typeLookup_type,builtinLookup_eq_fast];kernel_rfl
section
variable {X:Cx}{aa:List (Addr×Obj)}{σ:St}{B H0:Hp}{A:Around}{R:Result->Shared->Prop}{k1 k2:Bool}{z TI TO i1 i2 l1 l2 S:Addr}{us ws:List V}{ds es:List D}
theorem xy (hA:A.handled=none)(Z:ZA k1 k2 z TI TO i1 i2 l1 l2)(hS:S∉[z,TI,TO,i1,i2])(h1:kQ k1 X.K B l1 us)(j1:IsL X.K B us ds)(h2:kQ k2 X.K B l2 ws)(j2:IsL X.K B ws es)
  (hR:∀Hc N vs s',Inv X aa σ (upd Hc S (.lst vs)) s'->Hc S=none->Ext B N H0 Hc->IsL X.K N vs (fu ds es)->R (.ok (.ret .none)) s'):
  ∀(k i:Nat)(s:Shared)(Hc N:Hp)(vs:List V),(fu ds es).length - i=k->i<=(fu ds es).length->Inv X aa σ (upd Hc S (.lst vs)) s->Hc S=none->Ext B N H0 Hc->(∀b∈[z,TI,TO,i1,i2],j5 X aa (upd Hc S (.lst vs)) b) ->
   zH k1 k2 z TI TO i1 i2 l1 l2 S i s.heap->IsL X.K N vs ((fu ds es).take i) ->
   codeAny (model X.prog X.w) A (.builtin "list.extend.loop" ⟨[.ref S,.ref z,.none],[]⟩) R s:=by
 have n1:=j1.length;have n2:=j2.length;have nz:(fu ds es).length=min ds.length es.length:=by unfold fu;rw[List.length_zipWith]
 intro k;induction k with
 |zero=>
  intro i s Hc N vs hk hi I hc xt fp st il;have yi:i=(fu ds es).length:=by omega
  have sm:aM B (upd Hc S (.lst vs)):=(xt.bn.trans xt.nh).trans (r6 hc);obtain⟨its,r1,p1,z1⟩:=(h1.same sm).vals I;obtain⟨nH,r2,p2,z2⟩:=(h2.same sm).vals I;have e1:=r1.length;have e2:=r2.length;refine codeAny_builtin PySem.F.entry_extend_loop ?_;rw[Around.under_plainId PySem.F.plain_extend_loop _];show wpAny _ A.in1 (pyNext (.ref z)>>=_) _ _ s;refine wX (zJ (A:=A.in1) hA Z st p1 p2 ?_ λh' AG=>?_)
  ·by_cases q:ds.length<=es.length
   ·left;simp;omega
   ·right;simp;omega
  ·refine wY (hR Hc N vs _ (lv (t':=s.toks) I fp AG) hc xt ?_);rw[yi,List.take_length]at il;exact il
 |succ k ih=>
  intro i s Hc N vs hk hi I hc xt fp st il;have gi:i<(fu ds es).length:=by omega
  have sm:aM B (upd Hc S (.lst vs)):=(xt.bn.trans xt.nh).trans (r6 hc);obtain⟨its,r1,p1,z1⟩:=(h1.same sm).vals I;obtain⟨nH,r2,p2,z2⟩:=(h2.same sm).vals I;have d1:i<ds.length:=by omega
  have d2:i<es.length:=by omega
  obtain⟨x,hx,ix⟩:=j1.get (vU d1);obtain⟨y,hy,iy⟩:=j2.get (vU d2);obtain⟨u,hu,ru⟩:=r1.get hx;obtain⟨v,hv,rv⟩:=r2.get hy;have el:(fu ds es)[i]? = some (.tup [ds[i],es[i]]):=by
   unfold fu;rw[List.getElem?_zipWith,vU d1,vU d2]
  obtain⟨zl,iS,c,Pg,Qy,eS⟩:=I.lstM ay;have Nn:S<s.heap.objs.size:=vX eS;refine codeAny_builtin PySem.F.entry_extend_loop ?_;rw[Around.under_plainId PySem.F.plain_extend_loop _];show wpAny _ A.in1 (pyNext (.ref z)>>=_) _ _ s;refine wX (zI (A:=A.in1) Z Nn st p1 p2 (by simpa using hu) (by simpa using hv) λh' mR hp AG=>?_);have fr:upd Hc S (.lst vs) s.heap.objs.size=none:=I.hok.fresh (vT _);have nS:s.heap.objs.size≠S:=Nat.ne_of_gt Nn;have No:Hc s.heap.objs.size=none:=by rw[a9 nS]at fr;exact fr
  have new:br X.prog X.w (upd (upd Hc S (.lst vs)) s.heap.objs.size (.tup [x,y])) h' s.heap.objs.size (.tup [x,y]):=⟨by show 2<=sizeLine;decide,[u,v],.cons ru (.cons rv .nil),⟨_,hp,rfl,_,rfl⟩⟩;have I1:Inv X aa σ (upd (upd Hc S (.lst vs)) s.heap.objs.size (.tup [x,y])) { s with heap:=h' }:=zm (s:=s) (t':=s.toks) I fp AG (vT _) new;rw[zK nS.symm]at I1;have Np:h'.get? S=some { cls:=.type "list",data:=.seq iS.toArray c }:=AG S _ hS eS;have ww:Ext B (upd N s.heap.objs.size (.tup [x,y])) H0 (upd Hc s.heap.objs.size (.tup [x,y])):=xt.trans (Ext.laid xt.nh No);have vl:vs.length=i:=by rw[il.length,List.length_take];omega
  have zs:=zl;show wpAny _ A.in1 (updateSeq S (·.push (Value.ref s.heap.objs.size))>>=_) _ _ _;refine wX ?_;have lz:(vs++[V.ref s.heap.objs.size]).length<=sizeLine:=by
   rw[vA,vl];have a1:=z1;show i+1<=sizeLine;omega
  have I2:=I1.lset (t':=s.toks) (ys:=vs++[.ref s.heap.objs.size]) (its':=iS++[.ref s.heap.objs.size]) (f:=(·.push (Value.ref s.heap.objs.size))) ay Np (by simp) (Pg.append (.cons (show aK (.ref _) (.ref _)from rfl) .nil)) lz;rw[lr]at I2;refine wpAny_updateSeq Np rfl (wY ⟨plainId_quiet PySem.F.plain_extend_loop _,ih (i+1) _ _ _ (vs++[.ref s.heap.objs.size]) (by omega) gi I2 (by rw[a9 nS.symm];exact hc) ww (λb hb=>?_) (mR.keep hS λb o hb e=>(Heap.get?_update_other _ _ (Ne.symm hb)).trans e) ?_⟩) (by simp;omega) (by simp;omega)
  ·obtain⟨f0,f1,f2,f3,f4,f5⟩:=fp b hb;refine⟨?_,f1,f2,f3,f4,f5⟩;have nb:b≠S:=λe=>hS (e ▸ hb);rw[a9 nb]at f0 ⊢;have nT:b≠s.heap.objs.size:=by
    obtain⟨hI,t1,t2,a4⟩:=st;obtain⟨o1,e1,_⟩:=t1.ob;obtain⟨o2,e2,_⟩:=t2.ob;simp only[List.mem_cons,List.not_mem_nil,or_false]at hb;have lt:∀ {c o},s.heap.get? c=some o->c≠s.heap.objs.size:=λe=>vS (vX e);have hO:∃o,s.heap.get? TO=some o/\∃o,s.heap.get? z=some o:=by
     rcases a4 with⟨hz,a,b,hO⟩|⟨T0,f,oT,oO,hz,h0,n0,nS,hO⟩
     ·exact⟨_,hO,_,hz⟩
     ·exact⟨_,hO,_,hz⟩
    obtain⟨o3,e3,o4,e4⟩:=hO;rcases hb with rfl|rfl|rfl|rfl|rfl
    ·exact lt e4
    ·exact lt hI
    ·exact lt e3
    ·exact lt e1
    ·exact lt e2
   rw[a9 nT];exact f0
  ·rw[xw el];exact(il.mono (Ext.laid xt.nh No).bn).append (.cons (.tup (gh.of ay) (.cons (ix.mono ww.bn) (.cons (iy.mono ww.bn) .nil))) .nil)
end
section
variable {X:Cx}{aa:List (Addr×Obj)}{σ:St}{B H:Hp}{s:Shared}{k1 k2:Bool}{z TI TO i1 i2 l1 l2:Addr}{us ws:List V}{ds es:List D}
theorem nD (hA:X.A.handled=none)(I:Inv X aa σ H s)(Z:ZA k1 k2 z TI TO i1 i2 l1 l2)(fp:∀b∈[z,TI,TO,i1,i2],j5 X aa H b)
  (hI:IsPair s.heap TI (.ref i1) (.ref i2)) (t1:jz k1 s.heap i1 l1 0) (t2:jz k2 s.heap i2 l2 0) (hz:IsZip s.heap z TI TO .none) (hO:IsPair s.heap TO a b)
  (sB:aM B H) (h1:kQ k1 X.K B l1 us) (j1:IsL X.K B us ds) (h2:kQ k2 X.K B l2 ws) (j2:IsL X.K B ws es)
  (q:∀(S:Addr)(Hc N:Hp)(vs:List V),Hc S=none->Ext B N H Hc->IsL X.K N vs (fu ds es)->Q (.ref S) (upd Hc S (.lst vs))):
  wq X (call (.type "list") [.ref z]) (EP X aa σ Q) X.xe s:=by
 have lt:∀ {c o},s.heap.get? c=some o->s.heap.objs.size≠c:=λe=>Nat.ne_of_gt (vX e);have wz:s.heap.objs.size∉[z,TI,TO,i1,i2]:=by
  obtain⟨o1,e1,_⟩:=t1.ob;obtain⟨o2,e2,_⟩:=t2.ob;simp only[List.mem_cons,List.not_mem_nil,or_false,not_or];exact⟨lt hz,lt hI,lt hO,lt e1,lt e2⟩
 have nz:s.heap.objs.size≠z:=lt hz;have Ph:zH k1 k2 z TI TO i1 i2 l1 l2 s.heap.objs.size 0 s.heap:=⟨hI,t1,t2,.inl ⟨hz,a,b,hO⟩⟩;have hc:H s.heap.objs.size=none:=I.fresh;refine callType_codes (Q₁:=λobj s₁=>obj=.ref s.heap.objs.size/\s₁={ s with heap:=s.heap.push { cls:=.type "list",data:=.seq #[] } }) PySem.F.called_list (PySem.F.typeCall_list_1 _) PySem.F.entry_list_init
  (code_list_new _ ⟨rfl,rfl⟩) λobj s₁ h₁=>?_
 obtain⟨rfl,rfl⟩:=h₁;have hS:(s.heap.push { cls:=.type "list",data:=.seq #[] }).get? s.heap.objs.size=some { cls:=.type "list",data:=.seq ([]:List Value).toArray }:=vY _ rfl;have I1:Inv X aa σ (upd H s.heap.objs.size (.lst [])) { s with heap:=s.heap.push { cls:=.type "list",data:=.seq #[] } }:=I.lnew (t':=s.toks) (its:=[]) .nil (uM _);have Pj:zH k1 k2 z TI TO i1 i2 l1 l2 s.heap.objs.size 0 (s.heap.push { cls:=.type "list",data:=.seq #[] }):=Ph.keep wz λb o _ e=>vZ _ e;refine⟨⟨_,hS,rfl⟩,PySem.F.args_list_init_2 _ _,?_⟩;show wpAny _ _ (do let DQ ←Builtin.List.listItems (.ref s.heap.objs.size);Builtin.List.listUpdate (.ref s.heap.objs.size) (λ_=>#[]);letGo DQ.toList.reverse;Builtin.List.listExtendWith (.ref s.heap.objs.size) (.ref z) .none) _ _ _;refine wX ?_;unfold Builtin.List.listItems;refine wX (wpAny_seqItems hS rfl (wY ?_));show wpAny _ _ (updateSeq s.heap.objs.size (λ_=>#[])>>=λ_=>letGo (#[]:Array Value).toList.reverse>>=λ_=>Builtin.List.listExtendWith (.ref s.heap.objs.size) (.ref z) .none) _ _ _;refine wX (wpAny_updateSeq hS rfl ?_);have I2:=I1.lset (t':=s.toks) (ys:=[]) (its':=[]) (f:=λ_=>#[]) ay hS rfl .nil (uM _);have uv:=Pj.keep (h':=(s.heap.push { cls:=.type "list",data:=.seq #[] }).update s.heap.objs.size (Obj.mapSeq λ_=>(#[]:Array Value))) wz λb o hb e=>(Heap.get?_update_other _ _ (Ne.symm hb)).trans e;rw[lr]at I2;generalize hg2:(s.heap.push { cls:=.type "list",data:=.seq #[] }).update s.heap.objs.size (Obj.mapSeq λ_=>(#[]:Array Value))=g2 at I2 uv ⊢;obtain⟨_,ya,c2,v2,_,DN⟩:=I2.lstM ay;have e2:=v2.zero;subst e2;refine wX (wpAny_letGo ?_);unfold Builtin.List.listExtendWith;refine wX (wpAny_typeOf (T:="zip") uv.ty ?_);have DR:Builtin.List.listSameRef (.ref s.heap.objs.size) (.ref z)=false:=by simp[Builtin.List.listSameRef,nz]
 have j0:(Value.type "zip" == Value.type "list")=false:=by decide
 have JN:(Value.type "zip" == Value.type "tuple")=false:=by decide
 simp only[DR,j0,JN,Bool.or_false,uW,if_false];have JF:IsZip g2 z TI TO .none:=by
  rw[←hg2];exact(Heap.get?_update_other _ _ nz).trans (vZ _ hz)
 refine wX (wpAny_pyIter_zip JF ?_);refine wX (wpAny_holding ?_);unfold Builtin.List.listLengthHint;refine wX (wpAny_specialOf (T:="zip") uv.ty tO ?_);show wpAny _ _ (specialOf (Value.ref z) (Str.ofString "__length_hint__")>>=_) _ _ _;refine wX (wpAny_specialOf (T:="zip") uv.ty rA ?_);refine wY ?_;show wpAny _ _ (rule "list.extend.makes-room" >>= λ_=>Builtin.List.listTouch (.ref s.heap.objs.size)>>=λ_=>
  again (.builtin "list.extend.loop" ⟨[.ref s.heap.objs.size,.ref z,.none],[]⟩)) _ _ _
 refine wX (wpAny_rule ?_);refine wX ?_;show wpAny _ _ (updateSeq s.heap.objs.size (·.push .none)>>=λ_=>updateSeq s.heap.objs.size (·.pop)) _ _ _;refine wX (wpAny_updateSeq DN rfl ?_);have I3:=I2.lset (t':=s.toks) (ys:=[.non]) (its':=[.none]) (f:=(·.push .none)) ay DN rfl (.cons (show aK .non .none from rfl) .nil) (by show 1<=sizeLine;decide);have Iy:=uv.keep (h':=g2.update s.heap.objs.size (Obj.mapSeq (·.push .none))) wz λb o hb e=>(Heap.get?_update_other _ _ (Ne.symm hb)).trans e;rw[lr]at I3;generalize hg3:g2.update s.heap.objs.size (Obj.mapSeq (·.push .none))=g3 at I3 Iy ⊢;obtain⟨_,Pk,c3,v3,_,JH⟩:=I3.lstM ay;obtain⟨n3,rfl,r3⟩:=v3.one;cases r3
 refine wpAny_updateSeq (hz:=by simp<;>decide) JH rfl ?_
 have I4:=I3.lset (t':=s.toks) (ys:=[]) (its':=[]) (f:=(·.pop)) ay JH rfl .nil (uM _);have Pl:=Iy.keep (h':=g3.update s.heap.objs.size (Obj.mapSeq (·.pop))) wz λb o hb e=>(Heap.get?_update_other _ _ (Ne.symm hb)).trans e;rw[lr]at I4;refine wY ⟨plainId_quiet PySem.F.plain_extend_loop _,xy (A:=X.A.in1) (B:=B) (H0:=H) hA Z wz h1 j1 h2 j2 (λHc N vs s' I' Gx xt il=>?_) _ 0 _ H B [] rfl (uM _) I4 hc (Ext.refl sB) (λb hb=>?_) Pl .nil⟩
 ·exact⟨rfl,.ref s.heap.objs.size,_,I',rfl,q _ Hc N vs Gx xt il⟩
 ·obtain⟨f0,f1⟩:=fp b hb;refine⟨?_,f1⟩;have nb:b≠s.heap.objs.size:=λe=>wz (e ▸ hb);rw[a9 nb];exact f0
end
@[simp] def Mn (fa fb:FE):FE:=λρ=>(xg fa fb ρ).map λds=>(.lst ds,true)
section
variable {X:Cx}{a b:Expr}{pos p pos2 p2:Pos}
theorem tP (LB:X.calm=true)(hl:X.mg "list" = none)(hm:X.mg "zip" = none)(ha:JE X a fa)(hb:JE X b fb)(Pm:Gl X "list":=by rfl)(hg:Gl X "zip":=by rfl)
  (hs:starEach [a,b] X.env=[(false,eval a X.env),(false,eval b X.env)]:=by rfl) (j0:starEach [b] X.env=[(false,eval b X.env)]:=by rfl)
  (JN:starEach [.Call (.Name "zip" p2) [a,b] [] pos2] X.env=[(false,eval (.Call (.Name "zip" p2) [a,b] [] pos2) X.env)]:=by rfl):
  JE X (.Call (.Name "list" p) [.Call (.Name "zip" p2) [a,b] [] pos2] [] pos) (Mn fa fb):=by
 intro aa s σ H Q I q;obtain⟨B,ρ,d,bb,sB,r,ee,hW⟩:=q;obtain⟨zs,Nq,e2⟩:=oY ee;cases e2
 clear ee;have ee:=Nq;clear Nq;obtain⟨x1,ex,ee⟩:=oX ee;obtain⟨y1,ey,ee⟩:=oX ee;obtain⟨xs,Lu,ee⟩:=oX ee;obtain⟨ys,Lv,ee⟩:=oY ee;subst ee;refine wpAny_Call_Name_kw (fT I Pm hl ky ?_ (by decide) (by decide));refine PyProof.Rows.callWith_type1 ?_ (by rw[JN];rfl) rfl;rw[JN];show wpAny _ _ (spliced ((false,eval (.Call (.Name "zip" p2) [a,b] [] pos2) X.env)::backTo pos [])) _ _ s;refine Calls.spliced_cons ?_;refine wpAny_Call_Name_kw (fT I hg hm Dy ?_ (by decide) (by decide));refine PyProof.Rows.callWith_type1 (bJ (ag ha (ag hb ah j0) (by rw[hs,j0]) pos2 aa s σ H (λvs H1=>∃N1,Ext B N1 H H1/\IsL X.K N1 vs [x1.1,y1.1]) I ⟨B,ρ,[x1.1,y1.1],sB,r,by simp[ac,ai,ex,ey],λvs H1 N1 xt i1=>⟨N1,xt,i1⟩⟩) λus s1 ⟨vs,H1,I1,r1,N1,xt,il⟩=>?_) (by rw[hs,j0]) (by rw[j0];rfl);cases il with
 |cons j1 j2=>
  cases j2 with
  |cons j2 j3=>
   cases j3
   obtain⟨k1,l1,Qz,rfl,h1,m1⟩:=qV j1 Lu;obtain⟨k2,l2,Q0,rfl,h2,m2⟩:=qV j2 Lv;obtain⟨u1,u2,rfl,Lr,Ls⟩:=r1.two;cases Lr
   cases Ls
   obtain⟨its,v1,p1,z1⟩:=(h1.same xt.nh).vals I1;obtain⟨nH,v2,p2,z2⟩:=(h2.same xt.nh).vals I1;have Cp:=p1.lt;have CW:=p2.lt;refine vm p1 p2 λh' c1 c2 c3 c4 c5 ck=>?_;have D:ZApart (s1.heap.objs.size+4) (s1.heap.objs.size+2) (s1.heap.objs.size+3) s1.heap.objs.size (s1.heap.objs.size+1):=by
    constructor<;>(intro z;exact absurd z (by first|exact vS (Nat.add_lt_add_left (by decide) _)|exact Nat.ne_of_gt (Nat.add_lt_add_left (by decide) _)|exact vS (Nat.lt_add_of_pos_right (by decide))|exact Nat.ne_of_gt (Nat.lt_add_of_pos_right (by decide))))
   have nf:∀ {l:Addr}(n:Nat),l<s1.heap.objs.size->l≠s1.heap.objs.size+n:=λn hl=>vS (vQ hl (Nat.le_add_right _ n));refine Calls.spliced_nil ?_;refine nD (s:={ s1 with heap:=h' }) (k1:=k1) (k2:=k2) (B:=N1) (H:=H1) (I1.ok.hd LB) (I1.kept (t':=s1.toks) ck) ⟨D,⟨nf 4 Cp,nf 3 Cp,nf 0 Cp⟩,⟨nf 4 CW,nf 3 CW,nf 0 CW,nf 1 CW⟩⟩ (λb hb=>?_) c2 c4 c5 c1 c3 xt.nh h1 m1 h2 m2 λS Hc N vs hS ww il2=>?_
   ·have wx:s1.heap.objs.size<=b:=by
     simp at hb;rcases hb with rfl|rfl|rfl|rfl|rfl
     ·exact Nat.le_add_right _ 4
     ·exact Nat.le_add_right _ 2
     ·exact Nat.le_add_right _ 3
     ·exact vT _
     ·exact Nat.le_add_right _ 1
    exact I1.fpOk wx (I1.hok.fresh wx)
   ·have x3:=(xt.trans ww).trans (Ext.laid (o:=.lst vs) ww.nh hS);have Nr:=il2.mono (Ext.laid (o:=.lst vs) ww.nh hS).bn;exact hW _ _ _ x3 (.lst (fU.of ay) Nr) λ_=>⟨_,_,_,rfl,rfl,(xt.trans ww).hh.free hS,ay,Nr⟩
end
theorem NP (h:n+40<cLine):n+1<cLine:=by omega
end DL
namespace L2
open PySem PySem.Spec PyProof.Rows
noncomputable def Ch (lo c:Int)(n:Nat):It:=⟨λi _=>i<n,λi H x H'=>H'=H/\x=.int (lo+i*c),λi _=>n<=i⟩
theorem rB {P:Program}{w:World}{K:Frag}{tg:Expr}(it:Addr)(lo c:Int)(n:Nat):Turn P w K tg (Ch lo c n) [it] it (λi h=>IsRangeIter h it (lo+(i:Nat)*c) ((n:Int) - (i:Nat)) c) where
 mem:=by simp
 obj:=λi h st b hb=>by
  have e:b=it:=by simpa using hb
  subst e;exact⟨_,st,λv z=>by
   have z':Data.fields _=Data.cell v:=z;cases z'⟩
 keep:=λi h h' st k=>k it (by simp) _ st
 item:=by
  intro X hP hw hK hc i aa s σ H E I hf st hg;subst hP hw hK;obtain⟨f0,f1,f2,f3,f4,f5⟩:=hf it (by simp);have W:=Walks.range (prog:=X.prog) (w:=X.w) (I.ok.hd hc) it lo c n;refine W.item i s _ _ hg st λv h' tk hv mR kk=>?_;obtain⟨t,rfl⟩:=hv;have I1:Inv X aa σ H { s with heap:=h',toks:=tk }:=I.turned (λb o hb e=>kk b o (by simpa using hb) e) f0 f1 f3 f4 f5;exact⟨_,rfl,nK (s:={ s with heap:=h',toks:=tk }) (n:="range_iterator") mR rfl rfl (by decide) ⟨.int (lo+i*c),H,I1,⟨t,rfl⟩,⟨rfl,rfl⟩,mR,λb hb=>(hf b hb).1⟩⟩
 done:=by
  intro X hP hw hK hc i aa s σ H E I hf st hg;subst hP hw hK;obtain⟨f0,f1,f2,f3,f4,f5⟩:=hf it (by simp);exact wpAny_pyNext_range_end (I.ok.hd hc) st (by have:n<=i:=hg;omega) λh' eb=>⟨rfl,I.turned (t':=s.toks) (λb o hb e=>eb b o hb e) f0 f1 f3 f4 f5⟩
 self:=λ_ _ _ _ _ st h=>wpAny_pyIter_rangeiter st h
section
variable {X:Cx}{tg:Expr}
theorem rC (ha : -1000<=a/\a<=1000/\-1000<=b/\b<=1000)(hc:c=1∨c=2∨c=3∨c = -1):Builtin.Range.small a b c=true/\0<=Builtin.Range.rangeSize a b c:=by
 unfold Builtin.Range.small Builtin.Range.rangeSize Builtin.Range.rangeFitsLong;rcases hc with rfl|rfl|rfl|rfl
 all_goals
  simp only[vD,Bool.or_eq_true,decide_eq_true_eq,beq_iff_eq,show(1:Int) > 0 by decide,show(2:Int) > 0 by decide,show(3:Int) > 0 by decide,show ¬(-1:Int) > 0 by decide,show -(-1:Int)=1 by decide,if_true,if_false]
  split<;>omega
theorem xz {aa:List (Addr×Obj)}{σ:St}{H:Hp}{s:Shared}{R:It->Hp->Prop}{E:Value->Shared->Prop}{lo hi c:Int}{t u v:Tok}{tk:Nat}(I:Inv X aa σ H s)(h1 : -1000<=lo/\lo<=1000/\-1000<=hi/\hi<=1000)(h2:c=1∨c=2∨c=3∨c = -1)
  (q:R (Ch lo c (Builtin.Range.rangeSize lo hi c).toNat) H):wq X (pyIter (.ref s.heap.objs.size)) (Kd X aa σ tg R) E { s with heap:=s.heap.push { cls:=.type "range",data:=.fields #[.int lo t,.int hi u,.int c v] },toks:=tk }:=by
 obtain⟨hs,hz⟩:=rC h1 h2;refine wpAny_pyIter_range (IsRange.new ..) hs ?_;have I1:Inv X aa σ H { s with heap:=s.heap.push { cls:=.type "range",data:=.fields #[.int lo t,.int hi u,.int c v] },toks:=tk }:=I.kept λb o e=>vZ _ e;refine⟨(s.heap.push { cls:=.type "range",data:=.fields #[.int lo t,.int hi u,.int c v] }).objs.size,[(s.heap.push { cls:=.type "range",data:=.fields #[.int lo t,.int hi u,.int c v] }).objs.size],_,_,H,rfl,
  I1.kept (t':=tk) λb o e=>vZ _ e,rB _ lo c (Builtin.Range.rangeSize lo hi c).toNat,?_,λb hb=>?_,q⟩
 ·have e1:lo+((0:Nat):Int)*c=lo:=by simp
  have e2:(((Builtin.Range.rangeSize lo hi c).toNat:Nat):Int) - ((0:Nat):Int)=Builtin.Range.rangeSize lo hi c:=by omega
  show IsRangeIter _ _ (lo+((0:Nat):Int)*c) ((((Builtin.Range.rangeSize lo hi c).toNat:Nat):Int) - ((0:Nat):Int)) c;rw[e1,e2];exact vY _ rfl
 ·have e:b=(s.heap.push { cls:=.type "range",data:=.fields #[.int lo t,.int hi u,.int c v] }).objs.size:=by simpa using hb
  subst e;exact I1.fpOk (vT _) (I1.hok.fresh (vT _))
def HW (ta:TA):TI:=λσ H R=>ta σ H λvs H1=>∃i j c:Int,vs=[.int i,.int j,.int c]/\((-1000<=i/\i<=1000/\-1000<=j/\j<=1000)/\(c=1∨c=2∨c=3∨c = -1))/\R (Ch i c (Builtin.Range.rangeSize i j c).toNat) H1
theorem x0 (hg:Gl X "range")(hm:X.mg "range" = none)(ha:PA X [a,b,c] ta)(hs:starEach [a,b,c] X.env=(false,eval a X.env)::starEach [b,c] X.env)(DR:starEach [b,c] X.env=[(false,eval b X.env),(false,eval c X.env)]):
  PI X tg (.Call (.Name "range" p) [a,b,c] [] pos) (HW ta):=by
 intro aa s σ H R I h;refine Call_ (fT I hg hm boot_range (PyProof.Rows.callWith_type1 (bJ (ha pos aa s σ H _ I h) λus s1 ⟨vs,H1,I1,r1,q1⟩=>?_) hs (by rw[DR];rfl)));obtain⟨i,j,c,e,⟨q1,q2⟩,q⟩:=q1;subst e;cases r1 with
 |cons r rr=>
  cases rr with
  |cons r' rr=>
   cases rr with
   |cons r'' rr=>
    cases rr
    obtain⟨t,rfl⟩:=r;obtain⟨t',rfl⟩:=r';obtain⟨Q1,rfl⟩:=r'';exact call_range_3 (by omega) (xz I1 q1 q2 q) (Or.inl (PyProof.noPylong_small (by omega)))
end
end L2
namespace DL
open PySem PySem.Spec PySem.W PyProof.Rows L2
section
variable {X:Cx}{a b c:Expr}{p pos:Pos}
noncomputable def kD (lo c:Int)(n:Nat):List D:=(List.range n).map λ(k:Nat)=>.int (lo+(k:Int)*c)
theorem xA {K:Frag}{B:Hp}(lo c:Int)(n:Nat):lj K (Ch lo c n) B (kD lo c n):=by
 intro i H s;unfold kD;refine⟨λd ed=>?_,λhl=>by rw[vI,List.length_range]at hl;exact hl⟩;rw[vB]at ed;obtain⟨k,ek,ed⟩:=oY ed;have hk:=vV ek;obtain⟨gi,hk⟩:=hk;rw[List.length_range]at gi;rw[List.getElem_range]at hk;subst hk;subst ed;refine⟨gi,λx H' hy=>?_⟩;obtain⟨rfl,rfl⟩:=hy;exact⟨B,.refl s,.int _⟩
@[simp] def iI (f g h:FE):FA:=λρ=>(f ρ).bind λx=>(g ρ).bind λy=>(h ρ).bind λz=>match x.1,y.1,z.1 with
 |.int i,.int j,.int c=>if(-1000<=i/\i<=1000/\-1000<=j/\j<=1000)/\(c=1∨c=2∨c=3∨c = -1)then some (kD i c (Builtin.Range.rangeSize i j c).toNat)else none
 |_,_,_=>none
theorem xB (hm:X.mg "range" = none)(ja:JE X a f)(jb:JE X b g)(jc:JE X c h)(hg:Gl X "range":=by rfl)(hs:starEach [a,b,c] X.env=(false,eval a X.env)::starEach [b,c] X.env:=by rfl)(DR:starEach [b,c] X.env=[(false,eval b X.env),(false,eval c X.env)]:=by rfl)(j0:starEach [c] X.env=[(false,eval c X.env)]:=by rfl):PI X tg (.Call (.Name "range" p) [a,b,c] [] pos) (Gm X.K (iI f g h)):=by
 refine PI.to (x0 hg hm (ag ja (ag jb (ag jc ah j0) (by rw[DR,j0])) hs) hs DR) λσ H R q=>?_;obtain⟨B,ρ,ds,sB,r,e',q⟩:=q;obtain⟨⟨x,xb⟩,ex,e'⟩:=oX e';obtain⟨⟨y,yb⟩,ey,e'⟩:=oX e';obtain⟨⟨z,zb⟩,ez,e'⟩:=oX e';match x,y,z,ex,ey,ez,e' with
 |.int i,.int j,.int k,ex,ey,ez,e'=>
  dsimp only at e';split at e'
  ·rename_i hj;cases e'
   refine⟨B,ρ,[.int i,.int j,.int k],sB,r,by simp[ac,ai,ex,ey,ez],λvs H1 N1 x1 i1=>?_⟩;cases i1 with
   |cons i1 i2=>
    cases i1
    cases i2 with
    |cons i2 i3=>
     cases i2
     cases i3 with
     |cons i3 i4=>
      cases i3;cases i4
      exact⟨i,j,k,rfl,hj,q _ H1 N1 x1 λ_=>xA i k _⟩
  ·cases e'
theorem xC (hm:X.mg "range" = none)(ja:JE X a f)(jb:JE X b g)(jc:JE X c h)(hg:Gl X "range":=by rfl)(hs:starEach [a,b,c] X.env=(false,eval a X.env)::starEach [b,c] X.env:=by rfl)(DR:starEach [b,c] X.env=[(false,eval b X.env),(false,eval c X.env)]:=by rfl)(j0:starEach [c] X.env=[(false,eval c X.env)]:=by rfl):JI X tg (.Call (.Name "range" p) [a,b,c] [] pos) (iI f g h) :=
 PI.to (xB hm ja jb jc hg hs DR j0) λσ H R ⟨B,ρ,ds,sB,r,e',q⟩=>⟨B,ρ,ds,sB,r,e',λJ H' N x h=>q J H' N x (h _)⟩
end
noncomputable def oy:List (Str×FE)->Env->Option (List Str)
 |[],_=>some []
 |q::r,ρ=>(q.2 ρ).bind λx=>match x.1 with
  |.str z=>(oy r ρ).map (z :: ·)
  |_=>none
def rE (i:Nat)(kj:List (Str×FE)):FS:=λρ=>(oy kj ρ).bind λzs=>if(kj.map (·.1)).Nodup/\kj.length<=15 then some (.nx (ρ.set i (some (.dk (kj.map λq=>.inr q.1) (zs.map .str),true))))else none
theorem o0:∀ {kj:List (Str×FE)}{ρ:Env}{zs:List Str},oy kj ρ=some zs->zs.length=kj.length
 |[],_,_,h=>by cases h;rfl
 |q::r,ρ,zs,h=>by
  unfold oy at h;obtain⟨x,_,h⟩:=oX h;split at h
  ·obtain⟨Nt,h1,rfl⟩:=oY h;rw[vE,vE,o0 h1]
  ·cases h
section
variable {K:Frag}{E:Ends}{σ:St}{ρ:Env}
theorem o5 (rep:dJ K N σ ρ):∀(kj:List (Str×FE))(zs:List Str)(H:Hp)(Q:List (V×V)->Hp->Prop),oy kj ρ=some zs->aM N H->(∀H2,aM H H2->Q (List.zipWith (λq z=>(V.str q.1,V.str z)) kj zs) H2)->p7 (kj.map λq=>(tD K (fC (.str q.1)),tD K q.2)) σ H Q
 |[],zs,H,Q,e,sN,h=>by cases e;exact h H (.refl _)
 |q::r,zs,H,Q,e,sN,h=>by
  unfold oy at e;obtain⟨⟨x,xb⟩,ex,e⟩:=oX e;split at e
  ·rename_i z hz;obtain⟨Nt,e1,rfl⟩:=oY e;have hz:x=.str z:=hz;subst hz;refine⟨N,ρ,.str q.1,false,sN,rep,rfl,λv H1 N1 x1 i1 _=>?_⟩;cases i1
   refine⟨N,ρ,.str z,xb,sN.trans x1.hh,rep,ex,λv H2 N2 x2 i2 _=>?_⟩;cases i2
   exact o5 rep r Nt H2 _ e1 (sN.trans (x1.hh.trans x2.hh)) λH3 s3=>h H3 (x1.hh.trans (x2.hh.trans s3))
  ·cases e
theorem cV.newBox' (s:cV K B0 H0 N H σ ρ)(i:Nat)(hp:H p=none)(h2:∀a o,a≠p->H a=some o->H2 a=some o)(hb:∀C,Bx K C ob dd):cV K B0 H0 (upd N p ob) (upd H2 p ob) (σ.set i (some (.ref p))) (ρ.set i (some (dd,true))):=by
 have LC:N p=none:=s.ext.nh.free hp;have x:Ext N (upd N p ob) H (upd H2 p ob):=by
  refine⟨λa u e=>?_,λa u e=>?_,λa u e=>?_,λa u e=>?_⟩
  ·have z:a≠p:=λq=>by subst q;rw[hp]at e;cases e
   rw[a9 z];exact h2 a u z e
  ·rw[a9 (λq=>by subst q;rw[LC]at e;cases e)];exact e
  ·by_cases q:a=p
   ·subst q;rw[ay]at e ⊢;exact e
   ·rw[a9 q]at e ⊢;exact h2 a u q (s.ext.nh a u e)
  ·by_cases q:a=p
   ·subst q;exact .inr hp
   ·rw[a9 q]at e;exact .inl e
 have s1:=s.grow x;have Pn:¬own σ ρ p:=λz=>by obtain⟨ws,⟨q,_⟩,_⟩:=s.owned z;rw[LC]at q;cases q
 have c:aM (cW N (own σ ρ)) (cW (upd N p ob) (λb=>own σ ρ b∨b=p)):=dD λb u e q=>⟨x.bn _ _ e,λz=>z.elim q λz=>by subst z;rw[LC]at e;cases e⟩;refine s1.bindOwn ay (s.ext.hh.free hp) (λj e q z=>Pn ⟨j,e,q,z⟩) (λj e _ q=>?_) (λj e _ q=>?_) (hb _)
 ·obtain⟨w,h1,h2⟩:=s.sh j e q;exact⟨w,h1,h2.mono c⟩
 ·obtain⟨a',o',h1,h2,_,h4⟩:=s.ow j e q;exact⟨a',o',h1,x.bn _ _ h2,h4.mono c⟩
theorem zL:∀ {aG:List (dL×V)},k∉aG.map (·.1)->lM aG k v=aG++[(k,v)]:=by
 intro aG h;unfold lM;rw[if_neg];intro z;obtain⟨x,hx,e⟩:=List.any_eq_true.mp z;exact h (List.mem_map.mpr ⟨x,hx,of_decide_eq_true e⟩)
theorem ml:∀(lq aG:List (dL×V)),((aG++lq).map (·.1)).Nodup->jg aG lq=aG++lq
 |[],aG,_=>by rw[uQ];rfl
 |p::r,aG,h=>by
  show jg (lM aG p.1 p.2) r=_;have hn:p.1∉aG.map (·.1):=by
   rw[uX,List.nodup_append]at h;exact λz=>h.2.2 _ z _ mX rfl
  rw[zL hn,ml r (aG++[(p.1,p.2)]) (by rw[List.append_assoc];exact h),List.append_assoc];rfl
theorem rF:∀(kj:List (Str×FE))(zs:List Str),List.zipWith (λ(q:Str×FE) z=>((Sum.inr q.1:dL),V.str z)) kj zs=(kj.map λq=>(Sum.inr q.1:dL)).zip (zs.map V.str)
 |[],_=>rfl
 |_::_,[]=>rfl
 |q::r,z::zs=>by rw[List.zipWith_cons_cons,rF r zs];rfl
theorem rG (C:Hp):∀zs:List Str,IsL K C (zs.map V.str) (zs.map D.str)
 |[]=>.nil
 |z::zs=>.cons (.str z) (rG C zs)
theorem zM (q:mV K (rE i kj) E σ H):wC (Dp (kj.map λq=>(tD K (fC (.str q.1)),tD K q.2))) (iT i) E σ H:=by
 obtain⟨B0,H0,ρ,r,⟨N,s⟩,e,p⟩:=q;obtain⟨zs,ez,e⟩:=oX e;split at e
 ·rename_i hc;cases e
  intro a ob ha;have sN:aM N (upd H a (.dK [] ob)):=λb o eb=>by
   have eb:=s.ext.nh b o eb;rw[a9 (λq=>by subst q;rw[ha]at eb;cases eb)];exact eb
  refine o5 s.rep kj zs _ _ ez sN λH2 s2=>⟨s2 _ _ ay,List.zipWith (λq z=>(Sum.inr q.1,V.str z)) kj zs,?_,?_,λIF=>?_⟩
  ·rw[List.map_zipWith];rfl
  ·rw[List.length_zipWith];omega
  ·have hl:=o0 ez;have e1:=rF kj zs;have e2:((kj.map λq=>(Sum.inr q.1:dL)).zip (zs.map V.str)).map (·.1)=kj.map λq=>(Sum.inr q.1:dL):=by
    rw[List.map_fst_zip];rw[vI,vI];omega
   have hn:(kj.map λq=>(Sum.inr q.1:dL)).Nodup:=List.pairwise_map.mpr ((List.pairwise_map.mp hc.1).imp λh z=>h (Sum.inr.inj z));rw[e1,ml _ [] (by rw[List.nil_append,e2];exact hn),List.nil_append];refine p _ _ ⟨_,s.newBox' i ha (λb o nb eb=>s2 b o (by rw[a9 nb];exact eb)) λC=>.dk (by rw[vI,vI];omega) (rG C zs)⟩
 ·cases e
end
section
variable {X:Cx}{pos:Pos}
def Jx (X:Cx)(pos:Pos)(iR:List (Option Expr))(gg:List Expr)(kj:List (Str×FE)):Prop:=Hl X pos iR gg (kj.map λq=>(tD X.K (fC (.str q.1)),tD X.K q.2))
theorem Ci:Jx X pos [] [] []:=B7
theorem jH (hk:JE X (.Constant (.str z) j cp) (fC (.str z)))(hv:JE X v f)(hr:Jx X pos ks vs kj):Jx X pos (some (.Constant (.str z) j cp)::ks) (v::vs) ((z,f)::kj):=yL hk hv hr
theorem Cj (hN:X.N.Nodup)(h:Jx X dp iR gg kj)(hi:X.N[i]? = some x:=by rfl)(qt:iR.all (·.isSome)=true:=by rfl)(hl:iR.length=gg.length:=by rfl)(h0:iR≠[]:=by exact List.cons_ne_nil _ _)(Lb:iR.length<=15:=by decide)
  (hx:De X.env.scope x:=by first|exact Or.inl rfl|exact Or.inr rfl) (hs:swapsWith (.Dict iR gg dp) (some (.Name x p)) pos.line X.env=pure false:=by rfl)
  (hf:X.fn x=true∨X.env.scope.names.lookup x=some .local:=by first|exact .inl rfl|exact .inr rfl):JS X (.Assign [.Name x p] (.Dict iR gg dp) pos) (rE i kj):=PS.to (yw hN hi hx (B8 h qt hl h0 Lb) hs hf) λ_ _ _ q=>zM q
end
end DL
namespace L2
open PySem PySem.Spec PyProof.Rows
theorem KV.get {aG:List (dL×V)}{vs:List (dL×Value)}(r:KV aG vs){i:Nat}{k:dL}{x:V}(h:aG[i]? = some (k,x)):∃u,vs[i]? = some (k,u)/\aK x u:=by
 unfold KV at r;induction r generalizing i with
 |nil=>simp at h
 |@cons p q ps qs hq t ih=>
  cases i with
  |zero=>
   cases (show p=(k,x)from vK h)
   obtain⟨q1,q2⟩:=q;exact⟨q2,by rw[show k=q1 from hq.1];rfl,hq.2⟩
  |succ i=>exact ih h
end L2
namespace DL
open PySem PySem.Spec PyProof.Rows L2
@[simp] abbrev fZ (i:Nat)(j:Int):FE:=f2 cb (af i) (fC (.int j))
theorem b7 (F:Fn X.prog X.w X.K X.mg X.base k x f)(hr:eJ j X.A)(ha:JA X (e::es) fa)(hj:k<=j:=by decide)(hg:Gl X x:=by rfl)(sI:(x == ("__debug__" : Str))=false:=by decide)(he:starEach (e::es) X.env=(false,eval e X.env)::starEach es X.env:=by rfl)(ng:(backTo pos (starEach es X.env)).any (·.1)=false:=by rfl):JE X (.Call (.Name x p) (e::es) [] pos) (fA f fa):=uE F (hr.mono hj) ha hg sI he ng
theorem HX (h1:∀y∈scope.names,y.2≠.cell:=by decide +kernel)(h2:scope.kind=.function:=by rfl)(h3:∀y∈scope.names,y.2=.local->scope.names.lookup y.1=some .local:=by decide +kernel)(Lg:(scope.names.all λy=>!(y.2 == NameKind.free) || (X.env.cells.lookup y.1).isSome)=true:=by rfl):CompSc X scope (dE scope.names X.env.cells []):=EL h1 h2 h3 Lg
theorem Mo (h1:N'[j]? = some x)(h2:X.N[i]? = some x)(t:kg X N' scope (dE scope.names X.env.cells []) (j+1) r)(h3:X.env.kindOf x=some .cell∨X.env.kindOf x=some .free:=by exact Or.inl rfl)(h4:(relabel scope X.env).names.lookup x=some .cell∨(relabel scope X.env).names.lookup x=some .free:=by exact Or.inl rfl)(hf:(x,NameKind.free)∈scope.names:=by decide +kernel)(hc:(X.env.cells.lookup x).isSome=true:=by rfl):kg X N' scope (dE scope.names X.env.cells []) j (i::r):=.cons h1 h2 h3 h4 (BH hf hc) t
end DL
namespace DL
open PySem PySem.Spec PySem.W PyProof.Rows L2
def K4:D->Option (List At)
 |.tup [.int n,.tup es]=>(tM es).map (.i n :: ·)
 |_=>none
def D4:List D->Option (List (List At))
 |[]=>some []
 |d::ds=>(K4 d).bind λa=>(D4 ds).map (a :: ·)
@[simp] abbrev K5:FE->(Env->D->Option D)->FE:=z7 D4 λ_=>true
end DL
namespace DL
open PySem PySem.Spec PyProof.Rows L2
def HY:Nat->(List Value->Prop)->Prop
 |0,P=>P []
 |n+1,P=>∀a,HY n λl=>P (a::l)
theorem Ff:∀n P,HY n P->∀us:List Value,us.length=n->P us
 |0,_,h,[],_=>h
 |n+1,_,h,a::us,e=>Ff n _ (h a) us (Nat.succ.inj e)
section
variable {P:Program}{w:World}{K:Frag}{mg:Str->Option Value}{base:Heap}
def KC (K:Frag)(mg:Str->Option Value)(x:Str)(c:D):Prop:=∃u v,mg x=some u/\aK v u/\∀B,Is K B v c
def KD (w:World)(K:Frag)(mg:Str->Option Value)(x:Str)(c:List (Str×D)):Prop:=∃d,mg x=some (.ref d)/\jD K w.params d c
theorem kc_of {x:Str}{c:D}{h:Heap}(X:K.In h)(G:h.Ns mainGlobals mg)(k:∃u v,nsIn K mainGlobals x=some (some u)/\aK v u/\∀B,Is K B v c):KC K mg x c:=let ⟨u,v,e,r⟩:=k;⟨u,v,mg_of X G e,r⟩
theorem kd_of {x:Str}{c:List (Str×D)}{h:Heap}(X:K.In h)(G:h.Ns mainGlobals mg)(k:∃d,nsIn K mainGlobals x=some (some (.ref d))/\jD K w.params d c):KD w K mg x c:=let ⟨d,e,r⟩:=k;⟨d,mg_of X G e,r⟩
theorem dw.fqL {x:Str}{st:Stmt}{k:Nat}{F':List D->OB}(F:dw K x st)(B:∃h,K.In h/\h.Ns mainGlobals mg)(g:FS)(N:List Str)(n:Nat)
  (hb:∀ {f:Addr}{de:Value}{A:Around}{outer:List PySem.Env}{s:Shared}{H:Hp}{E:XK},N.Nodup->eJ k (A.deeper (envOfC x (aB st) s.heap.objs.size f de))->(A.deeper (envOfC x (aB st) s.heap.objs.size f de)).units+40<cLine->(∀c P,PySem.W.tabIn K x=some (c,P)->de=.ref c)->pA (lh sM P w K mg base N x (aB st) f de A outer s H E).nox (bU st) g)
  (S:FnScope N (N.take n) (aB st):=by refine⟨rfl,rfl,rfl,?_,rfl,?_,?_⟩<;>decide +kernel)
  (CV:∀(kV doc pm:Value)(an:Option Addr)(de ct:Value)(us:List Value),us.length=(N.take n).length->bindArgs (fnOf x x (dX st) (bU st) (aB st) .none kV doc pm an de ct) ⟨us,[]⟩=pure ((N.take n).zip us):=by
   exact λ_ _ _ _ _ _=>Ff _ _ (by(repeat intro);rfl))
  (e:aI g (N.take n).length (N.length - (N.take n).length)=F':=by rfl):
  Fn P w K mg base (k+1) x F':=let ⟨_,X,G⟩:=B;e ▸ F.fnL X G S CV λ_ _ _ _ _ _ _ hc hr=>hb S.nd hr (HE hr) hc
theorem dw.fq {x:Str}{st:Stmt}{k:Nat}{F':List D->OB}(F:dw K x st)(B:∃h,K.In h/\h.Ns mainGlobals mg)(g:FS)(N:List Str)(n:Nat)
  (hb:∀ {f:Addr}{de:Value}{A:Around}{outer:List PySem.Env}{s:Shared}{H:Hp}{E:XK},N.Nodup->eJ k (A.deeper (envOfC x (aB st) s.heap.objs.size f de))->(A.deeper (envOfC x (aB st) s.heap.objs.size f de)).units+40<cLine->pA (lh sM P w K mg base N x (aB st) f de A outer s H E).nox (bU st) g)
  (S:FnScope N (N.take n) (aB st):=by refine⟨rfl,rfl,rfl,?_,rfl,?_,?_⟩<;>decide +kernel)
  (CV:∀(kV doc pm:Value)(an:Option Addr)(de ct:Value)(us:List Value),us.length=(N.take n).length->bindArgs (fnOf x x (dX st) (bU st) (aB st) .none kV doc pm an de ct) ⟨us,[]⟩=pure ((N.take n).zip us):=by
   exact λ_ _ _ _ _ _=>Ff _ _ (by(repeat intro);rfl))
  (e:aI g (N.take n).length (N.length - (N.take n).length)=F':=by rfl):
  Fn P w K mg base (k+1) x F':=F.fqL B g N n (λn r u _=>hb n r u) S CV e
end
section
variable {X:Cx}{x:Str}{pos:Pos}
theorem tQ (i:Nat)(hN:X.N.Nodup)(hi:X.N[i]? = some x:=by rfl)(hx:De X.env.scope x:=by first|exact Or.inl rfl|exact Or.inr rfl)(hf:X.fn x=true∨X.env.scope.names.lookup x=some .local:=by first|exact .inl rfl|exact .inr rfl):PG X (.Name x pos) (iT i):=uz hN hi hx hf
theorem Gr {fp}(i:Nat)(hN:N'.Nodup:=by decide +kernel)(hi:(fW X N' scope cl C s H fp).N[i]? = some x:=by rfl)(hx:De (fW X N' scope cl C s H fp).env.scope x:=by exact Or.inl rfl)(hf:(fW X N' scope cl C s H fp).fn x=true∨(fW X N' scope cl C s H fp).env.scope.names.lookup x=some .local:=by first|exact .inl rfl|exact .inr rfl):PG (fW X N' scope cl C s H fp) (.Name x pos) (iT i):=uz hN hi hx hf
theorem eB (N':List Str)(hi:JI X tg cz fi)(hc:∀ {C s H fp},JC (fW X N' scope (dE scope.names X.env.cells []) C s H fp) mS fc)(he:∀ {C s H fp},JE (fW X N' scope (dE scope.names X.env.cells []) C s H fp) nF fe)
  (sJ:Ds X.K nT lC g:=by first|exact qG (by decide)|exact Dx (by decide)) (hg:∀ {C s H fp},PG (fW X N' scope (dE scope.names X.env.cells []) C s H fp) tg g:=by intros;first|exact Gr 0|exact lH rfl (cB (Gr 0) (cB (Gr 1) iD)))
  (cp:kg X N' scope (dE scope.names X.env.cells []) nT cap:=by repeat first|exact .nil rfl|refine Mo rfl rfl ?_)
  (S:CompSc X scope (dE scope.names X.env.cells []):=by exact HX) (hU:X.calm=true:=by rfl)
  (hs:∀x,foldedSetIterable cz X.env x=pure x:=by intro _;rfl):
  JE X (.ListComp nF [⟨tg,cz,mS,0⟩] scope pos) (bB fi nT cap lC fc fe):=BJ hU S cp hi (λ_ _ _ _=>hg) sJ (λ_ _ _ _=>hc) (λ_ _ _ _=>he) hs
theorem o6 (N':List Str)(hN:X.N.Nodup)(hi:JI X tg cz fi)(hc:∀ {C s H fp},JC (fW X N' scope (dE scope.names X.env.cells []) C s H fp) mS fc)(he:∀ {C s H fp},JE (fW X N' scope (dE scope.names X.env.cells []) C s H fp) nF fe)
  (sJ:Ds X.K nT lC g:=by first|exact qG (by decide)|exact Dx (by decide)) (hg:∀ {C s H fp},PG (fW X N' scope (dE scope.names X.env.cells []) C s H fp) tg g:=by intros;first|exact Gr 0|exact lH rfl (cB (Gr 0) (cB (Gr 1) iD)))
  (cp:kg X N' scope (dE scope.names X.env.cells []) nT cap:=by repeat first|exact .nil rfl|refine Mo rfl rfl ?_)
  (Lj:X.N[i]? = some y:=by rfl) (hy:X.env.kindOf y=some .local:=by rfl)
  (FP:swapsWith (.ListComp nF [⟨tg,cz,mS,0⟩] scope pos) (some (.Name y py)) spos.line X.env=pure true:=by rfl)
  (S:CompSc X scope (dE scope.names X.env.cells []):=by exact HX) (hU:X.calm=true:=by rfl)
  (hs:∀x,foldedSetIterable cz X.env x=pure x:=by intro _;rfl):
  JS X (.Assign [.Name y py] (.ListComp nF [⟨tg,cz,mS,0⟩] scope pos) spos) (bi i (bB fi nT cap lC fc fe)):=BK hU hN Lj hy FP S cp hi (λ_ _ _ _=>hg) sJ (λ_ _ _ _=>hc) (λ_ _ _ _=>he) hs
theorem o7 (hi:JI X tg cz fi)(hg:PG X tg t)(ht:BF X.K lC t)(hb:pA X body g)(hp:PassesOwn (model X.prog X.w) X.A X.env X.xe:=by exact PassesOwn.never)(hc:X.calm=true:=by rfl)
  (hs:∀x,foldedSetIterable cz X.env x=pure x:=by intro _;rfl):JS X (.For tg cz body [] pos) (ll fi lC g):=ES hp hc hi hg ht hb hs
theorem vx (hi:PI X tg cz (Gm X.K fi))(hg:PG X tg t)(ht:BF X.K lC t)(hb:pA X body g)(hp:PassesOwn (model X.prog X.w) X.A X.env X.xe:=by exact PassesOwn.never)(hc:X.calm=true:=by rfl)
  (hs:∀x,foldedSetIterable cz X.env x=pure x:=by intro _;rfl):JS X (.For tg cz body [] pos) (j8 fi lC g):=BQ hp hc hi hg ht hb hs
end
@[simp] abbrev fV (i:Nat)(g:FA):FA:=ac (af i) g
@[simp] abbrev fI (n:Int):FE:=fC (.int n)
@[simp] abbrev fS (s:PySem.Str):FE:=fC (.str s)
section
variable {X:Cx}{es:List Expr}{g:FA}{pos:Pos}
theorem aA {x:Str}{p:Pos}(i:Nat)(hr:JA X es g)(hN:X.N[i]? = some x:=by rfl)(hv:Bd X.env.scope x:=by first|exact Or.inl rfl|exact Or.inr (Or.inl rfl)|exact Or.inr (Or.inr rfl))(hd:(x == ("__debug__" : Str))=false:=by decide)(lB:(x == ("__classdict__" : Str))=false:=by decide)
  (hs:starEach (.Name x p::es) X.env=(false,eval (.Name x p) X.env)::starEach es X.env:=by rfl):JA X (.Name x p::es) (fV i g):=ag (ae i hN hv hd lB) hr hs
theorem cD {i:Int}{j:Nat}(hr:JA X es g):JA X (.Constant (.int i) j pos::es) (ac (fC (.int i)) g):=ag al hr
theorem aZ (F:Fn X.prog X.w X.K X.mg X.base k x f)(hr:eJ j X.A)(ha:JA X (e::es) g:=by repeat first|exact ah|refine aA _ ?_|refine ag aq ?_)(hj:k<=j:=by decide)(hg:Gl X x:=by rfl)(sI:(x == ("__debug__" : Str))=false:=by decide)(he:starEach (e::es) X.env=(false,eval e X.env)::starEach es X.env:=by rfl)(ng:(backTo pos (starEach es X.env)).any (·.1)=false:=by rfl):JE X (.Call (.Name x p) (e::es) [] pos) (fA f g):=uE F (hr.mono hj) ha hg sI he ng
theorem aU (he:JE X e f):pA X [.Return (some e) pos] (aD f):=bF (yX he)
theorem ba {c:Expr}{fc:FT}(hc:JT X c fc)(he:JE X e f):JS X (.If c [.Return (some e) p] [] pos) (cZ fc (aD f) aJ):=gZ hc (bF (yX he)) fj
theorem bj (i:Nat)(hN:X.N[i]? = some x:=by rfl)(hv:Bd X.env.scope x:=by first|exact Or.inl rfl|exact Or.inr (Or.inl rfl)|exact Or.inr (Or.inr rfl))(hd:(x == ("__debug__" : Str))=false:=by decide)(lB:(x == ("__classdict__" : Str))=false:=by decide):JE X (.Subscript (.Name x p) (.Constant (.int n) j q) pos) (fZ i n):=ca (ae i hN hv hd lB) al
end
structure FnD (P:Program)(w:World)(K:Frag)(mg:Str->Option Value)(base:Heap)(k:Nat)(x:Str)(f:List D->OB):Prop where
 ex:∃(ad:Addr)(fd:FuncData)(ps:List Str),ke P w K mg base sM k ad fd ps (BR K f)/\mg x=some (.ref ad)/\PySem.W.keepIn K (.ref ad)=true/\kN K fd ps []/\kN K fd ps [.none]
theorem FnD.fn {P:Program}{w:World}{K:Frag}{mg:Str->Option Value}{base:Heap}(F:FnD P w K mg base k x f):Fn P w K mg base k x f:=let ⟨ad,fd,ps,h1,h2,h3,h4,_⟩:=F.ex;⟨ad,fd,ps,h1,h2,h3,h4⟩
end DL
namespace DL
open PySem PySem.Spec PySem.W PyProof.Rows L2
def HZ (ns:List Int):Prop:=∀i∈ns,Builtin.Int.intBits i<=1048576
abbrev Fg:D->D->OB:=nu (λi j=>decide (Builtin.Int.intBits i<=2097152/\Builtin.Int.intBits j<=2097152)) λi j=>.int (i*j)
theorem Fh {X:Cx}:c6 X (binaryOp .Mult) (rD X.K Fg):=gH (C:=λi j=>Builtin.Int.intBits i<=2097152/\Builtin.Int.intBits j<=2097152) (g:=λi j=>.int (i*j)) (Ep λ_ _ _ _ _ _ _ hc q=>mul_int q (IntMulOk.of_le hc.1 hc.2 (by decide))) (λ_ _ h=>of_decide_eq_true h) λ_ _ _=>.int _
theorem Fi {ns:List Int}(h:WData.layableAll [WData.list (ns.map WData.int)]=true):HZ ns:=λi hi=>by
 have h1:(WData.list (ns.map WData.int)).layable=true:=layableW_arg h _ (List.mem_singleton.mpr rfl);have h2:=layableW_item h1 (WData.int i) (List.mem_map.mpr ⟨i,hi,rfl⟩);unfold WData.layable at h2;have h3:=of_decide_eq_true (vD _ _ ▸ h2).2;unfold WData.weight at h3;unfold Builtin.Int.intBits;omega
theorem walkB {l:PySem.W.OpenLaw}{q:Program}{Jh:List Str}{XP:(Str->Option Value)->Heap->Prop}{YP:World->Heap->Prop}{d:DefRec}{K:Params->Frag}{k:Nat}{x:Str}{f:List D->OB}{L:List (Str×Option (Addr×Addr))}(hn:l.most=some 63)(Po:d.params.defaults=[])(hr:eJ k callerA)
  (hY:∀(w:World)(h:Heap),YP w h->(K w.params).In h) (hT:∀w:World,lD (K w.params) L) (hD:(L.all λp=>p.2.isNone || ((recsOf q).find? λe=>e.name == p.1).isSome)=true)
  (F:∀(w:World)(mg:Str->Option Value)(fa:Addr)(h:Heap),(K w.params).In h->h.Ns mainGlobals mg->mg d.name=some (.ref fa) ->
   ∃fd:FuncData,(∀(s:Shared)(u:Value),BindsTo s fd ⟨[u],[]⟩ [(x,u)])/\∀base:Heap,(K w.params).In base->base.Ns mainGlobals mg->ke l.prog w (K w.params) mg base sM k fa fd [x] (BR (K w.params) f))
  (ht:∀ns:List Int,ns.length<=63->HZ ns->∃b,f [.lst (ns.map .int)]=some (.bl true,b)):PySem.W.WalkO q Jh XP YP l.row.toRowW d [] (λf vs=>PySem.call f vs):=by
 intro w s₀ s₁ mg mb G Y fa o pm cd doc dV kV ho hd lB hD' hmg hg args vals as CS hlay hrd KZ hlo;obtain rfl:dV=.none:=Dflts.none hD' Po;obtain rfl:kV=.none:=Dflts.noKw hD';obtain⟨a,vs,ns,rfl,rfl,LD,Ji,bD⟩:=Att.wO hn CS KZ;have KX:=hY w _ Y;obtain⟨fd,hb,hF⟩:=F w mg fa _ KX G.T.g hmg;refine enter_call (codeAny_mono (wZ (pI L) (λb u e=>?_) (hT w).none KX G.T.g G.T.b G.T.builtins G.T.nolimit G.T.bmain hg LD Ji (vR bD (by decide)) hr hF hb λH hH hS=>?_) λr s' hq=>?_)
 ·obtain⟨p,hp,e2⟩:=List.mem_filterMap.mp (ig e);obtain⟨⟨c,P⟩,e3,e4⟩:=oY e2;cases e4
  have LF:=uR hD p hp;rw[e3]at LF;rw[Option.isNone_some,Bool.false_or]at LF;obtain⟨r,Pp⟩:=Option.isSome_iff_exists.mp LF;have Pq:PySem.W.tabIn (K w.params) p.1=some (c,P):=by
   rw[(hT w).names]at hp;obtain⟨y,_,rfl⟩:=vO hp;exact e3
  obtain⟨h1,h2⟩:=PySem.W.tab_of G.T KX Pp Pq;exact⟨h2,(h1.tab h2).isCodeTable⟩
 ·obtain⟨b,e⟩:=ht ns bD (Fi hlay);exact⟨H,_,_,b,⟨.refl H,(hT w).tb hH⟩,.cons (.lst hS (.flat rfl)) .nil,e,λv H' N x' i' _=>by cases i';rfl⟩
 ·obtain⟨rfl,h2,h3,h4⟩:=hq;exact⟨.inl ⟨.bool true,.bool true,[],rfl,λ_=>rfl,.bool true,Att.wP l _,λ_=>⟨List.Pairwise.nil,λ_ hm=>(nomatch hm)⟩⟩,h2,h3,h4⟩
structure OneK (α:Type)[DecidableEq α] where
 v:α->V
 ev:Value->α->Bool
 as:List D->Option (List α)
 AV:∀ {a:α}{u:Value},aK (v a) u->∀b,ev u b=decide (a=b)
 eq:∀ {A:Around}{s:Shared}{a b:α}{u u':Value},aK (v a) u->aK (v b) u'->PySem.SeqAt.EqAt A s u u' (ev u b)
 is:∀ {K:Frag}{B:Hp}{ws:List V}{ds:List D}{l:List α},IsL K B ws ds->as ds=some l->ws=l.map v
theorem da {n:Nat}(h:n<=200000):n<=sizeLine:=by rw[sizeLine_eq];omega
section
variable {X:Cx}
abbrev Mp:D->D->OB:=nu (λ_ _=>true) λi j=>.int (Builtin.bitOr i j)
abbrev Ia:D->D->OB:=nu (λi j=>decide (0<=j/\j<=1000000/\i.natAbs<18446744073709551616)) λi j=>.int (i*2 ^ j.toNat)
theorem K6:c6 X (binaryOp .BitOr) (rD X.K Mp):=et GV λ_ _ _=>.int _
theorem Ib:c6 X (binaryOp .LShift) (rD X.K Ia):=gH Ew (λi j h=>by have h:=of_decide_eq_true h;unfold Bl;omega) λ_ _ _=>.int _
@[simp] noncomputable def gu:List D->OB
 |[.int i]=>if i.natAbs.log2<1920 then some (.str (toString i),false)else none
 |[.str x]=>some (.str x,false)
 |_=>none
theorem mm:bG X (.type "str") (yn X.K gu):=by
 intro aa s σ H xs us Q I rs q;obtain⟨B,ds,d,b,sB,i,e,q⟩:=q;cases i with
 |nil=>cases e
 |cons i1 i=>
  cases i with
  |cons _ _=>cases i1<;>cases e
  |nil=>
   obtain⟨u,rfl,r⟩:=gX rs;cases i1<;>try (cases e;done)
   ·rename_i n;simp only[gu]at e;split at e
    ·rename_i hn;cases e
     obtain⟨t,rfl⟩:=r;exact PySem.P.str_of_int hn ⟨.str _,H,I.tok _,⟨_,rfl⟩,q.one sB (.str _)⟩
    ·cases e
   ·cases e
    obtain⟨t,rfl⟩:=r;exact PySem.P.str_of_str ⟨.str _,H,I,⟨_,rfl⟩,q.one sB (.str _)⟩
@[simp] noncomputable def Ic:List D->OB
 |[.str x]=>(PySem.intText? x).bind λn=>if x.length<=640 then some (.int n,false)else none
 |_=>none
theorem Fj:bG X (.type "int") (yn X.K Ic):=by
 intro aa s σ H xs us Q I rs q;obtain⟨B,ds,d,b,sB,i,e,q⟩:=q;cases i with
 |nil=>cases e
 |cons i1 i=>
  cases i with
  |cons _ _=>cases i1<;>cases e
  |nil=>
   obtain⟨u,rfl,r⟩:=gX rs;cases i1<;>try (cases e;done)
   obtain⟨n,hn,e⟩:=oX e;split at e
   ·rename_i hl;cases e
    obtain⟨t,rfl⟩:=r;exact PySem.W.KIN.call_text hn hl ⟨.int _,H,I.tok _,⟨_,rfl⟩,q.one sB (.int _)⟩
   ·cases e
noncomputable def NQ (y x:Str):Bool:=!(Builtin.Str.occurrences x y 0 x.length 1).isEmpty
@[simp] def Mq:D->D->OB
 |.str y,.str x=>some (.bl (NQ y x),false)
 |_,_=>none
theorem Ie:c6 X (compareOp .In) (rD X.K Mq):=by
 intro aa s σ H x y v u Q I rx ry q;obtain⟨B,dx,dy,d,b,sB,ix,iy,e,q⟩:=q;cases ix<;>try (cases e;done)
 cases iy<;>try (cases e;done)
 cases e
 obtain⟨t,rfl⟩:=rx;obtain⟨t',rfl⟩:=ry;exact PySem.P.in_str ⟨.bl _,H,I,rfl,q.one sB (.bl _)⟩
theorem pX {aa:List (Addr×Obj)}{s:Shared}{σ:St}{H B:Hp}{ys:List V}{ds:List D}{us:List Value}{Q:VK}{tk:Nat}(I:Inv X aa σ H s)(sB:aM B H)(q:Fin X.K B H (.lst ds) true Q)(hv:aP ys us)(hl:IsL X.K B ys ds)(hz:ys.length<=sizeLine):
  EP X aa σ Q (.ref s.heap.objs.size) { s with heap:=s.heap.push { cls:=.type "list",data:=.seq us.toArray },toks:=tk }:=by
 have hp:H s.heap.objs.size=none:=I.hok.fresh (vT _);have xt:=Ext.laid (o:=.lst ys) sB hp;exact⟨.ref _,_,I.laid (λb o e=>vZ _ e) (vT _) (show br X.prog X.w _ _ _ (.lst ys)from ⟨hz,us,0,hv,vY _ rfl⟩),rfl,
  q _ _ _ xt (.lst (fU.of ay) (hl.mono xt.bn)) λ_=>⟨_,_,_,rfl,rfl,hp,ay,hl.mono xt.bn⟩⟩
theorem o8:∀(tk:Nat)(zs:List Str),aP (zs.map V.str) (strsFrom tk zs)
 |_,[]=>.nil
 |tk,_::zs=>.cons ⟨tk,rfl⟩ (o8 (tk+1) zs)
@[simp] noncomputable def gL:D->D->OB
 |.str x,.str y=>if 0<y.length/\x.length<=100000 then some (.lst ((Txt.split x y).map .str),true)else none
 |_,_=>none
theorem o9 (dx dy:D)(r:D×Bool)(h:gL dx dy=some r):∃z,dx=.str z:=by
 cases dx<;>first|exact⟨_,rfl⟩|cases h
theorem vy:ym X "str.split" (λx xs H Q=>∃y,xs=[y]/\rD X.K gL x y H Q):=by
 intro aa s σ H x xs v us Q I rx rs h;obtain⟨y,rfl,B,dx,dy,d,bb,sB,ix,iy,ee,q⟩:=h;obtain⟨u1,rfl,r1⟩:=gX rs;cases ix<;>try (cases ee;done)
 cases iy<;>try (cases ee;done)
 rename_i x y;simp only[gL]at ee;split at ee
 case isFalse=>cases ee
 rename_i hh;cases ee
 obtain⟨t,rfl⟩:=rx;obtain⟨u,rfl⟩:=r1;have hy:(y.length == 0)=false:=by simp;omega
 have hx:x.length<=sizeLine:=da (by omega);have hn:(Txt.split x y).length<=sizeLine:=vR (split_le x y) (da (by omega));unfold Txt.split at q hn;cases h1:(decide (x.length<y.length) || decide (Builtin.Str.strKind x<Builtin.Str.strKind y))
 ·rw[h1,if_neg (by decide)]at q hn;cases hf:(Builtin.Str.occurrences x y 0 x.length (x.length+1)).isEmpty
  ·rw[hf,if_neg (by decide)]at q hn;exact call_meets PySem.F.slot_str_split (typeIs_str _ _ _) PySem.F.entry_str_split (PySem.F.args_str_split_2 _ _) (meets_str_split_sep x y t u h1 hy hf hx hn) (pX I sB q (o8 _ _) (gt _) (by rw[vI];exact hn))
  ·rw[hf,if_pos rfl]at q;exact call_meets PySem.F.slot_str_split (typeIs_str _ _ _) PySem.F.entry_str_split (PySem.F.args_str_split_2 _ _) (meets_str_split_not_found x y t u h1 hy hf) (pX I sB q (ys:=[.str x]) (.cons (show aK (.str x) (.str x t)from ⟨t,rfl⟩) .nil) (gt [x]) (da (by simp)))
 ·rw[h1,if_pos rfl]at q;exact call_meets PySem.F.slot_str_split (typeIs_str _ _ _) PySem.F.entry_str_split (PySem.F.args_str_split_2 _ _) (meets_str_split_cannot_occur x y t u h1) (pX I sB q (ys:=[.str x]) (.cons (show aK (.str x) (.str x t)from ⟨t,rfl⟩) .nil) (gt [x]) (da (by simp)))
end
noncomputable def tR:D->Option Str
 |.int i=>if i.natAbs.log2<1920/\(Str.ofString (toString i)).length<=1000 then some (toString i)else none
 |.str x=>if x.length<=1000 then some x else none
 |_=>none
@[simp] def Ig (f:FE)(c:Str)(g:FE):FE:=λρ=>(f ρ).bind λx=>(g ρ).bind λy=>(tR x.1).bind λa=>(tR y.1).bind λb=>if c.length<=1000 then some (.str (Str.empty++a++c++b),false)else none
section
variable {X:Cx}
theorem zN {aa:List (Addr×Obj)}{s:Shared}{σ:St}{H N:Hp}{v:V}{d:D}{u:Value}{z:Str}{Q:Value->Shared->Prop}{E:Value->Shared->Prop}(I:Inv X aa σ H s)(i:Is X.K N v d)(r:aK v u)(e:tR d=some z)
  (h:∀(t:Tok)(tk:Nat),z.length<=1000->Inv X aa σ H { s with toks:=tk }->Q (.str z t) { s with toks:=tk }):wq X (formatField u Str.empty) Q E s:=by
 cases i<;>try (cases e;done)
 ·unfold tR at e;dsimp only at e;split at e
  ·rename_i hn;cases e
   obtain⟨t,rfl⟩:=r;exact wpAny_formatField_int hn.1 (h _ _ hn.2 (I.tok _))
  ·cases e
 ·unfold tR at e;dsimp only at e;split at e
  ·rename_i hn;cases e
   obtain⟨t,rfl⟩:=r;exact wpAny_formatField_str (h t s.toks hn (I.tok _)) (h _ _ hn (I.tok _)) (da (by omega))
  ·cases e
variable {ea eb:Expr}{f g:FE}{p1 p2 p3 pos:Pos}{k:Nat}
theorem Fk {c:Str}(ha:JE X ea f)(hb:JE X eb g):JE X (.JoinedStr [.FormattedValue ea (-1) none p1,.Constant (.str c) k p2,.FormattedValue eb (-1) none p3] pos) (Ig f c g):=by
 intro aa s σ H Q I h;obtain⟨B,ρ,d,bb,sB,rep,ee,q⟩:=h;obtain⟨⟨x,xb⟩,ex,ee⟩:=oX ee;obtain⟨⟨y,yb⟩,ey,ee⟩:=oX ee;obtain⟨a,Pr,ee⟩:=oX ee;obtain⟨b,Ps,ee⟩:=oX ee;split at ee
 case isFalse=>cases ee
 rename_i hc;cases ee
 refine wpAny_JoinedStr (wpAny_FormattedValue_plain (bJ (ha aa s σ H (λv H1=>∃N,Ext B N H H1/\Is X.K N v x) I ⟨B,ρ,_,_,sB,rep,ex,λv H1 N x1 i1 _=>⟨N,x1,i1⟩⟩) λu s1 hA=>?_));obtain⟨v,H1,I1,r1,N,x1,i1⟩:=hA;have l0:(Str.empty:Str).length=0:=rfl;refine zN I1 i1 r1 Pr λt tk hz I2=>⟨a,t,rfl,da (by rw[strLen_append];omega),?_⟩;show wpAny _ _ (eval (.Constant (.str c) k p2) X.env) _ _ _;refine bJ (aq aa _ σ H1 (λv H2=>∃N2,Ext N N2 H1 H2/\v=.str c) I2 ⟨N,ρ,_,_,x1.nh,rep.mono x1.bn,rfl,λv H2 N2 x2 i2 _=>⟨N2,x2,by cases i2;rfl⟩⟩) λu2 s2 hB=>?_;obtain⟨v2,H2,I3,r2,N2,x2,rfl⟩:=hB;obtain⟨t2,rfl⟩:=r2;refine⟨c,t2,rfl,da (by rw[strLen_append,strLen_append];omega),?_⟩;show wpAny _ _ (eval (.FormattedValue eb (-1) none p3) X.env) _ _ _;refine wpAny_FormattedValue_plain (bJ (hb aa s2 σ H2 (λv H3=>∃N',Ext N2 N' H2 H3/\Is X.K N' v y) I3 ⟨N2,ρ,_,_,x2.nh,(rep.mono x1.bn).mono x2.bn,ey,λv H3 N' x3 i3 _=>⟨N',x3,i3⟩⟩) λu3 s3 hC=>?_);obtain⟨v3,H3,I4,r3,N',x3,i3⟩:=hC;refine zN I4 i3 r3 Ps λt3 tk3 hz3 I5=>⟨b,t3,rfl,da (by rw[strLen_append,strLen_append,strLen_append];omega),da (by rw[strLen_append,strLen_append,strLen_append];omega),?_⟩;exact⟨.str _,H3,I5.tok _,⟨_,rfl⟩,q _ _ _ ((x1.trans x2).trans x3) (.str _) (by simp)⟩
end
noncomputable def zO:D->Bool
 |.non=>true
 |_=>false
noncomputable def K7:D->Bool
 |.non=>true
 |.tup _=>true
 |_=>false
@[simp] noncomputable def Jy:D->D->OB
 |.non,.lst ds=>if ds.all K7=true then some (.bl (ds.any zO),false)else none
 |_,_=>none
noncomputable def zP:Value->Bool
 |.none=>true
 |_=>false
section
variable {X:Cx}
theorem zQ {aa:List (Addr×Obj)}{s:Shared}{σ:St}{H B:Hp}(I:Inv X aa σ H s)(sB:aM B H){A:Around}(hu:A.units<cLine):∀ {vs:List V}{ds:List D}{us:List Value},aP vs us->IsL X.K B vs ds->ds.all K7=true->us.any zP=ds.any zO/\∀w∈us,PySem.SeqAt.EqAt A s w .none (zP w)
 |_,_,_,.nil,.nil,_=>⟨rfl,λ_ h=>nomatch h⟩
 |_,_,_,.cons r rr,.cons i ii,h=>by
  rw[List.all_cons,vD]at h;obtain⟨e1,e2⟩:=zQ I sB hu rr ii h.2;cases i<;>try (cases h.1;done)
  ·cases r
   refine⟨by rw[List.any_cons,List.any_cons,e1];rfl,λw hw=>?_⟩;rcases vP hw with rfl|hw
   ·exact PySem.SeqAt.EqAt.same _
   ·exact e2 w hw
  ·rename_i hq hl;cases r
   refine⟨by rw[List.any_cons,List.any_cons,e1];rfl,λw hw=>?_⟩;rcases vP hw with rfl|hw
   ·obtain⟨its,_,p,_⟩:=I.tuple (aQ sB hq);exact PySem.SeqAt.EqAt.tuple_none p hu
   ·exact e2 w hw
theorem Ih (hu:X.A.units+40<cLine):c6 X (compareOp .In) (rD X.K Jy):=by
 intro aa s σ H x y v u Q I rx ry q;obtain⟨B,dx,dy,d,b,sB,ix,iy,e,q⟩:=q;cases ix<;>try (cases e;done)
 cases iy<;>try (cases e;done)
 rename_i hq hl;simp only[Jy]at e;split at e
 ·rename_i ha;cases e
  cases rx
  cases ry
  obtain⟨its,r,pl,hz⟩:=I.list (sB.seq hq);have h:=λ(A:Around) (hA:A.units<cLine)=>zQ I sB (A:=A) hA r hl ha;refine SeqAt.in_listAt zP pl.isList (λw hw=>(h _ ?_).2 w (by simpa using hw)) ⟨.bl _,H,I,rfl,?_⟩
  ·exact show X.A.units+1<cLine by omega
  ·rw[show its.toArray.any zP=its.any zP by simp,(h X.A (by omega)).1];exact q.one sB (.bl _)
 ·cases e
end
end DL
namespace DL
open PySem PySem.Spec PyProof.Rows L2
section
variable {X:Cx}{o e e':Expr}{pos:Pos}
@[simp] def D5 (fo fe ff:FE):FE:=λρ=>(fo ρ).bind λx=>(fe ρ).bind λy=>(ff ρ).bind λz=>match x.1 with
 |.dk ks vs=>(rq y.1).map λk=>((kU ks vs k).getD z.1,false)
 |_=>none
theorem zR {dq ce:Pos}{fo fe ff:FE}(hu:X.A.units+1<cLine)(ho:JE X o fo)(he:JE X e fe)(hf:JE X e' ff)(m:M2 X o "get" dq e e' ce):JE X (.Call (.Attribute o "get" dq) [e,e'] [] ce) (D5 fo fe ff):=by
 refine PE.to (yM hu ho he hf m) λσ H Q q=>?_;obtain⟨B,ρ,d,bb,sB,r,ee,q⟩:=q;obtain⟨x,ex,ee⟩:=oX ee;obtain⟨y,ey,ee⟩:=oX ee;obtain⟨z,ez,ee⟩:=oX ee;refine⟨B,ρ,x.1,x.2,sB,r,ex,λv H1 N1 x1 i1 _=>?_⟩;obtain⟨xd,xb⟩:=x;cases i1 with
 |@dk a ks vs ds ob h hl hs=>
  dsimp only at ee;obtain⟨k,hk,ee⟩:=oY ee;cases ee
  refine⟨a,rfl,.inl ⟨_,_,.inl (x1.nh _ _ h)⟩,N1,ρ,y.1,y.2,x1.nh,r.mono x1.bn,ey,λv2 H2 N2 x2 i2 _=>⟨N2,ρ,z.1,z.2,x2.nh,(r.mono x1.bn).mono x2.bn,ez,λv3 H3 N3 x3 i3 _=>?_⟩⟩;have hv:=HV i2 hk;subst hv;refine⟨kq (ks.zip vs) k,.inl ⟨_,k,_,.inl (x3.nh _ _ (x3.bn _ _ (x2.bn _ _ h))),rfl,rfl⟩,?_⟩;have j0:=(hs.mono x2.bn).mono x3.bn;rcases z9 k hl j0 with⟨v,d',e1,e2,i4⟩|⟨e1,e2⟩
  ·rw[e1];rw[e2]at q;exact(q.into ((x1.trans x2).trans x3)).one x3.nh i4
  ·rw[e1];rw[e2]at q;exact(q.into ((x1.trans x2).trans x3)).one x3.nh i3
 |_=>cases ee
end
theorem oA {X:Cx}{b:List Stmt}:pA X b fY:=λaa s σ H E I q=>by
 obtain⟨B0,H0,ρ,r,_,e,_⟩:=q;cases e
theorem Ck {prog:Program}{w:World}{A:Around}(hA:A.handled=none)(it:Addr)(z:Str)(t:Tok)(n:Nat)(hn:z.cps[n]? = none):Draws prog w A it [it] n (λ_ _=>True) (λi h=>h.IsStrIter it "str_ascii_iterator" z t i/\i=n) where
 live:=λi h st=>let ⟨o,e,_⟩:=st.1;⟨o,e⟩
 frame:=λi h h' st kk=>⟨let ⟨o,e,r⟩:=st.1;⟨o,kk it (by simp) o e,r⟩,st.2⟩
 item:=λi s Q E hi st q=>absurd st.2 (vS hi)
 done:=λs Q E st q=>wpAny_nextOf_ascii_end hA st.1 hn q
noncomputable def Fl (z:Str):It:=⟨λi _=>i<z.cps.size,λi H v H'=>∃T c,v=.ref T/\H T=none/\H'=upd H T (.tup [.int i,.str ⟨#[c]⟩])/\z.cps[i]? = some c,λi _=>z.cps.size<=i⟩
theorem tS {P:Program}{w:World}{K:Frag}{es:List Expr}{kt:Nat}{pt:Pos}{z:Str}{t:Tok}{e it:Addr}(LG:e≠it):
  Turn P w K (.Tuple es kt pt) (Fl z) [e,it] e (λi h=>(∃DQ,IsEnum h e it i DQ)/\h.IsStrIter it "str_ascii_iterator" z t i) where
 mem:=by simp
 obj:=λi h st b hb=>by
  obtain⟨⟨DQ,he⟩,t1⟩:=st;simp at hb;rcases hb with rfl|rfl
  ·exact⟨_,he,λv z=>by cases z⟩
  ·obtain⟨o,e1,_,d1⟩:=t1;exact⟨o,e1,λv zz=>by rw[d1]at zz;cases zz⟩
 keep:=λi h h' st kk=>by
  obtain⟨⟨DQ,he⟩,o,e1,r⟩:=st;exact⟨⟨DQ,kk e (by simp) _ he⟩,o,kk it (by simp) o e1,r⟩
 item:=by
  intro X hP hw hK hc i aa s σ H E I hf st hg;subst hP hw hK;obtain⟨⟨DQ,he⟩,t1⟩:=st;have AX:i<z.cps.size:=hg;have fresh:H s.heap.objs.size=none:=I.hok.fresh (vT _);have yh:e≠s.heap.objs.size:=vS (vX he);have Nu:it≠s.heap.objs.size:=by obtain⟨o,q,_⟩:=t1;exact vS (vX q)
  refine wpAny_pyNext_enum_itemD (Draws.strAscii (A:=X.A.in1) (I.ok.hd hc) it z t) he t1 AX LG (by simp[LG]) λv h' tk hv ho mR hT hsz hk=>?_;obtain⟨c,u,Gx,rfl⟩:=hv;refine⟨_,rfl,wpAny_letOwnedTupleGo_enum (s:={ s with heap:=h',toks:=tk+1 }) ho λh2 he2 s2=>?_⟩;have AY:Heap.SameBut e h' h2:=s2;have kk:∀b o,b∉[e,it]->s.heap.get? b=some o->h2.get? b=some o:=λb o hb q=>AY.extBut _ _ (λz=>hb (by simp[z])) (hk b o (λz=>hb (by simp[z])) (λz=>hb (by simp[z])) q);have new:br X.prog X.w (upd H s.heap.objs.size (.tup [.int i,.str ⟨#[c]⟩])) h2 s.heap.objs.size (.tup [.int i,.str ⟨#[c]⟩]):=⟨by show 2<=sizeLine;decide,[.int i tk,.str ⟨#[c]⟩ u],.cons ⟨tk,rfl⟩ (.cons ⟨u,rfl⟩ .nil),⟨_,AY.extBut _ _ yh.symm hT,rfl,_,rfl⟩⟩;refine⟨.ref s.heap.objs.size,upd H s.heap.objs.size (.tup [.int i,.str ⟨#[c]⟩]),zm (s:=s) (t':=tk+1) I hf kk (vT _) new,rfl,⟨_,c,rfl,fresh,rfl,Gx⟩,?_,λb hb=>?_⟩
  ·refine⟨⟨_,by have:=he2;rw[show((i:Int)+1)=((i+1:Nat):Int) by omega]at this;exact this⟩,?_⟩;obtain⟨o,e1,r⟩:=mR;exact⟨o,AY.extBut _ _ LG.symm e1,r⟩
  ·have yg:b≠s.heap.objs.size:=by
    simp at hb;rcases hb with rfl|rfl
    ·exact yh
    ·exact Nu
   rw[a9 yg];exact(hf b hb).1
 done:=by
  intro X hP hw hK hc i aa s σ H E I hf st hg;subst hP hw hK;obtain⟨⟨DQ,he⟩,t1⟩:=st;have AX:z.cps.size<=i:=hg;refine wpAny_pyNext_enum_endD (Ck (A:=X.A.in1) (I.ok.hd hc) it z t i (by simp;omega)) he ⟨t1,rfl⟩ λh' hk=>⟨rfl,?_⟩;exact lv (t':=s.toks) I hf λb o hb q=>hk b o (λz=>hb (by simp[z])) q
 self:=λ_ _ _ _ _ st h=>let ⟨⟨_,he⟩,_⟩:=st;wpAny_pyIter_enum he h
section
variable {X:Cx}{a b e:Expr}{pos:Pos}{p:Pos}
@[simp] def zS (fa:FE):FA:=λρ=>(fa ρ).bind λx=>match x.1 with
 |.str z=>if z.cps.all (· < 128)=true then some (vp (gq z))else none
 |_=>none
theorem zU {K:Frag}{N:Hp}(z:Str):lj K (Fl z) N (vp (gq z)):=by
 intro i H' sm;refine⟨λd ed=>?_,λhl=>?_⟩
 ·unfold vp gq at ed;rw[List.getElem?_mapIdx,vB]at ed;obtain⟨x,e1,rfl⟩:=oY ed;obtain⟨c,ec,rfl⟩:=oY e1;have IY:z.cps[i]? = some c:=by simpa using ec
  refine⟨(Array.getElem?_eq_some_iff.mp IY).1,λr H2 hy=>?_⟩;obtain⟨T,c',rfl,hT,rfl,e3⟩:=hy;rw[IY]at e3;cases e3;have xt:=Ext.laid (o:=.tup [.int i,.str ⟨#[c]⟩]) sm hT;exact⟨_,xt,.tup (gh.of ay) (.cons (.int _) (.cons (.str _) .nil))⟩
 ·unfold vp gq at hl;show z.cps.size<=i;simpa using hl
theorem zV {es:List Expr}{kt:Nat}{pt:Pos}{fa:FE}(hm:X.mg "enumerate" = none)(ha:JE X a fa)(hg:Gl X "enumerate":=by rfl)(hs:starEach [a] X.env=[(false,eval a X.env)]:=by rfl):
  JI X (.Tuple es kt pt) (.Call (.Name "enumerate" p) [a] [] pos) (zS fa):=by
 intro aa s σ H R I q;refine Call_ (fT I hg hm qX (PyProof.Rows.callWith_type1 (bJ (ag ha ah hs pos aa s σ H (λvs H1=>∃z:Str,vs=[.str z]/\z.cps.all (· < 128)=true/\R (Fl z) H1) I ?_) λus s1 ⟨vs,H1,I1,r1,q1⟩=>?_) hs rfl))
 ·obtain⟨B,ρ,ds,sB,r,ee,q⟩:=q;obtain⟨x1,ex,ee⟩:=oX ee;split at ee
  ·rename_i z hz;split at ee
   ·rename_i qt;cases ee
    refine⟨B,ρ,[x1.1],sB,r,by simp[ac,ai,ex],λvs H1 N1 xt i1=>?_⟩;cases i1 with
    |cons j1 j2=>
     cases j2
     rw[hz]at j1;cases j1
     exact⟨z,rfl,qt,q _ H1 N1 xt (zU z)⟩
   ·cases ee
  ·cases ee
 ·obtain⟨z,rfl,qt,q⟩:=q1;obtain⟨u1,rfl,t,rfl⟩:=r1.one;refine call_enumerate_str λh' c1 c2 hsz ck=>?_;have c2:h'.IsStrIter s1.heap.objs.size "str_ascii_iterator" z t 0:=by simpa [strIterType,qt]using c2
  refine wpAny_pyIter_enum c1 ⟨s1.heap.objs.size+1,[s1.heap.objs.size+1,s1.heap.objs.size],_,_,H1,rfl,I1.kept (t':=s1.toks) ck,
   tS (Nat.succ_ne_self _),⟨⟨_,c1⟩,c2⟩,λb hb=>?_,q⟩
  have wx:s1.heap.objs.size<=b:=by
   simp at hb;rcases hb with rfl|rfl
   ·exact Nat.le_succ _
   ·exact vT _
  exact I1.fpOk wx (I1.hok.fresh wx)
end
end DL
namespace DL
open PySem L2
theorem jI (I:Nat->Env->Prop)(ds:List D)(ρ0:Env)(h0:I 0 ρ0)
  (step:∀i d ρ,ds[i]? = some d->I i ρ->∃ρ1 ρ',tg d ρ=some ρ1/\(g ρ1=some (.nx ρ')∨g ρ1=some (.ct ρ'))/\I (i+1) ρ'):
  ∃ρ',dO tg g ds ρ0=some (.nx ρ')/\I ds.length ρ':=by
 have key:∀(es:List D)(i:Nat)(ρ:Env),ds.drop i=es->i+es.length=ds.length->I i ρ->∃ρ',dO tg g es ρ=some (.nx ρ')/\I ds.length ρ':=by
  intro es;induction es with
  |nil=>intro i ρ e hl h;refine⟨ρ,by rw[yS],?_⟩;rw[←hl];exact h
  |cons d es ih=>
   intro i ρ e hl h;have hd:ds[i]? = some d:=by
    have:(ds.drop i)[0]? = some d:=by rw[e];rfl
    rwa [List.getElem?_drop,Nat.add_zero]at this
   obtain⟨ρ1,ρ',h1,h2,h3⟩:=step i d ρ hd h;have he:ds.drop (i+1)=es:=by rw[←List.drop_drop,e];rfl
   obtain⟨ρ2,k1,k2⟩:=ih (i+1) ρ' he (by simp at hl;omega) h3;refine⟨ρ2,?_,k2⟩;rw[wR,h1];rcases h2 with h2|h2<;>simp only[vJ,h2]<;>exact k1
 exact key ds 0 ρ0 (by simp) (by simp) h0
theorem mn (n:Nat)(I:Nat->Env->Prop)(ρ0:Env)(h0:I 0 ρ0)
  (step:∀(i:Nat) ρ,i<n->I i ρ->∃ρ1 ρ',tg (.int (i:Int)) ρ=some ρ1/\(g ρ1=some (.nx ρ')∨g ρ1=some (.ct ρ'))/\I (i+1) ρ'):
  ∃ρ',dO tg g (cG 0 n) ρ0=some (.nx ρ')/\I n ρ':=by
 have hl:(cG 0 n).length=n:=by simp[cG]
 obtain⟨ρ',h1,h2⟩:=jI (tg:=tg) (g:=g) I (cG 0 n) ρ0 h0 λi d ρ hd h=>by
  unfold cG at hd;rw[vB]at hd;obtain⟨k,hk,hd⟩:=oY hd;obtain⟨gi,hk⟩:=vV hk;rw[List.length_range]at gi;rw[List.getElem_range]at hk;subst hk;rw[Int.zero_add]at hd;subst hd;exact step i ρ gi h
 rw[hl]at h2;exact⟨ρ',h1,h2⟩
theorem js {α:Type}{xs:List α}{j:Nat}(h:j<xs.length):nn xs (j:Int)=some xs[j]:=By (by simp[h])
theorem pY {α:Type}{xs:List α}{i:Int}(h0:0<=i)(h:i.toNat<xs.length):nn xs i=some xs[i.toNat]:=by
 have:=js h;rwa [Int.toNat_of_nonneg h0]at this
@[simp] theorem rH (xs:List Int):aS (xs.map D.int)=true:=by
 induction xs with
 |nil=>simp
 |cons x xs ih=>simp[ih]
@[simp] theorem AQ (n:Nat)(xs:List Int):(xs.map D.int).all (aN n)=true:=by
 induction xs with
 |nil=>simp
 |cons x xs ih=>simpa using ih
@[simp] theorem Cm (xs:List Int):(xs.map D.int).all fm=true:=by
 induction xs with
 |nil=>simp
 |cons x xs ih=>simpa using ih
theorem kE (n:Nat):cG 0 n=((List.range n).map λ(k:Nat)=>(k:Int)).map D.int:=by
 unfold cG;rw[uP];apply List.map_congr_left;intro k _;simp
mutual
def jJ:D->D->Bool
 |.non,.non=>true
 |.bl a,.bl b=>a == b
 |.int a,.int b=>decide (a=b)
 |.str a,.str b=>decide (a=b)
 |.ty a,.ty b=>decide (a=b)
 |.tup xs,.tup ys=>mo xs ys
 |.lst xs,.lst ys=>mo xs ys
 |_,_=>false
def mo:List D->List D->Bool
 |[],[]=>true
 |x::xs,y::ys=>jJ x y && mo xs ys
 |_,_=>false
end
mutual
theorem vz:∀ {x y:D},jJ x y=true->x=y
 |.non,.non,_=>rfl
 |.bl a,.bl b,h=>by simp[jJ]at h;rw[h]
 |.int a,.int b,h=>by simp[jJ]at h;rw[h]
 |.str a,.str b,h=>by simp[jJ]at h;rw[h]
 |.ty a,.ty b,h=>by simp[jJ]at h;rw[h]
 |.tup xs,.tup ys,h=>by rw[jJ]at h;rw[mq h]
 |.lst xs,.lst ys,h=>by rw[jJ]at h;rw[mq h]
theorem mq:∀ {xs ys:List D},mo xs ys=true->xs=ys
 |[],[],_=>rfl
 |x::xs,y::ys,h=>by
  rw[mo,vD]at h;rw[vz h.1,mq h.2]
end
def AR (r:OB)(d:D)(b:Bool):Bool:=match r with
 |some (e,c)=>jJ e d && c == b
 |none=>false
theorem bC (h:AR r d b=true):r=some (d,b):=by
 unfold AR at h;split at h
 ·rw[vD]at h;rw[vz h.1,eq_of_beq h.2]
 ·cases h
section
variable {f:FE}{c:FT}{g g' h:FS}{ρ ρ':Env}{i:Nat}{d:D}{b:Bool}{r:Option Res}{ds:List D}
theorem ao (hl:ds.length=n)(e:g (ds.map (λd=>some (d,false))++List.replicate k none)=some (.rt d b)):aI g n k ds=some (d,b):=by
 unfold aI;rw[if_pos hl,e]
theorem oB (n:bd d=true):setE ρ i d b=ρ.set i (some (d,false)):=by unfold setE;rw[if_pos n]
theorem rJ (n:aS ds=true):setE ρ i (.lst ds) true=ρ.set i (some (.lst ds,true)):=by
 unfold setE;rw[if_neg (by simp),if_pos ⟨rfl,by simpa using n⟩]
theorem Cn (n:bd d=false)(m:b=false∨qE d=false):setE ρ i d b=(unown ρ).set i (some (d,false)):=by
 unfold setE;have hz:¬(b=true/\qE d=true):=λz=>by
  rcases m with m|m
  ·rw[m]at z;exact absurd z.1 (by decide)
  ·rw[m]at z;exact absurd z.2 (by decide)
 rw[if_neg (by simp[n]),if_neg hz]
theorem zW (e:f ρ=some (d,b))(k:h (setE ρ i d b)=r):a7 (bi i f) h ρ=r:=by simp[e];exact k
theorem gM (e:f ρ=some (d,b))(n:bd d=true)(k:h (ρ.set i (some (d,false)))=r):a7 (bi i f) h ρ=r:=zW e (by rw[oB n];exact k)
theorem cK (e:f ρ=some (.lst ds,true))(n:aS ds=true)(k:h (ρ.set i (some (.lst ds,true)))=r):a7 (bi i f) h ρ=r:=zW e (by rw[rJ n];exact k)
theorem K8 (e:f ρ=some (d,b))(n:bd d=false)(m:b=false∨qE d=false)(k:h ((unown ρ).set i (some (d,false)))=r):a7 (bi i f) h ρ=r:=zW e (by rw[Cn n m];exact k)
theorem dM (e:g ρ=some (.nx ρ'))(k:h ρ'=r):a7 g h ρ=r:=by unfold a7;rw[e];exact k
theorem zX (e:g ρ=some (.rt d b)):a7 g h ρ=some (.rt d b):=by unfold a7;rw[e]
theorem pZ (e:c ρ=some true)(k:g ρ=r):cZ c g g' ρ=r:=by unfold cZ;rw[e];exact k
theorem tT (e:c ρ=some false)(k:g' ρ=r):cZ c g g' ρ=r:=by unfold cZ;rw[e];exact k
theorem bu (e:c ρ=some true)(k:g ρ=some (.rt d b)):a7 (cZ c g g') h ρ=some (.rt d b):=zX (pZ e k)
theorem am (e:c ρ=some false)(k:h ρ=r):a7 (cZ c g aJ) h ρ=r:=dM (tT e rfl) k
theorem aw (e:f ρ=some (d,b)):aD f ρ=some (.rt d b):=by simp[e]
theorem qa (e:ρ[i]? = some (some (d,b)))(hb:Dr d=false:=by rfl):kP i ρ=some (.rt d b):=by simp only[kP,e,hb];simp
theorem mr (e:f ρ=some (d,b))(n:bd d=true):bi i f ρ=some (.nx (ρ.set i (some (d,false)))):=by
 show(f ρ).map _=_;rw[e,Option.map_some,oB n]
theorem Co (e:f ρ=some (.lst ds,true))(n:aS ds=true):bi i f ρ=some (.nx (ρ.set i (some (.lst ds,true)))):=by
 show(f ρ).map _=_;rw[e,Option.map_some,rJ n]
theorem mv (e:ρ[i]? = some (some (.lst ds,true)))(ef:f ρ=some (d,b))(n:bd d=true)(l:ds.length<sizeLine):nr i f ρ=some (.nx (ρ.set i (some (.lst (ds++[d]),true)))):=by
 simp[e,ef,n,l]
theorem Ii (e:ρ[i]? = some (some (.lst ds,true)))(ef:f ρ=some (d,b))(n:bd d=true)(l:ds.length<sizeLine)(k:h (ρ.set i (some (.lst (ds++[d]),true)))=r):a7 (nr i f) h ρ=r:=dM (mv e ef n l) k
theorem ik (e:fi ρ=some ds)(k:dO tg g ds ρ=some (.nx ρ')):j8 fi tg g ρ=some (.nx ρ'):=by unfold j8;rw[e];exact k
theorem jK (e:fi (j7 ρ)=some ds)(k:dO tg g ds ρ=some (.nx ρ')):ll fi tg g ρ=some (.nx ρ'):=by unfold ll;rw[e];exact k
theorem dQ {f:FE}{j:Nat}(e:f ρ=some (.int j,b))(hj:j<=1000):dc f ρ=some (cG 0 j):=by
 unfold dc;rw[e];simp only[];rw[if_pos (by omega)];simp
theorem aH (e:f ρ=some (.bl x,b)):aT f ρ=some x:=by unfold aT;rw[e]
theorem ak (e:fa ρ=some ds)(k:F ds=x):fA F fa ρ=x:=by unfold fA;rw[e,vJ];exact k
theorem gv {f1 g1:D->D->OB}{fa fb fc:FE}{x y z:D}{b1 b2 b3 b4 p q:Bool}(ea:fa ρ=some (x,b1))(eb:fb ρ=some (y,b2))(ec:fc ρ=some (z,b3))(e1:f1 x y=some (.bl p,b4))(e2:p=true->g1 y z=some (.bl q,false)):db f1 g1 fa fb fc ρ=some (.bl (p && q),false):=by
 unfold db;rw[ea,eb,ec];simp only[vJ,e1];cases p
 ·rfl
 ·exact e2 rfl
theorem ga {f1 f2:FE}{p q b1:Bool}(e1:f1 ρ=some (.bl p,b1))(e2:p=true->f2 ρ=some (.bl q,false)):ji f1 f2 ρ=some (.bl (p && q),false):=by
 unfold ji;rw[e1];cases p
 ·rfl
 ·exact e2 rfl
theorem rK {f1 f2:FE}{p q b1:Bool}(e1:f1 ρ=some (.bl p,b1))(e2:p=false->f2 ρ=some (.bl q,false)):Dt f1 f2 ρ=some (.bl (p || q),false):=by
 unfold Dt;rw[e1];cases p
 ·exact e2 rfl
 ·rfl
theorem v0 {f1:FE}{p b1:Bool}(e1:f1 ρ=some (.bl p,b1)):wW f1 ρ=some (.bl (!p),false):=by
 unfold wW;rw[e1]
theorem a8 (e1:f ρ=some (d,b))(e2:fr ρ=some xs):ac f fr ρ=some (d::xs):=by
 unfold ac;rw[e1,vJ,e2,vJ]
theorem bq (e1:fa ρ=some (x,b1))(e2:fb ρ=some (y,b2))(e3:op x y=z):f2 op fa fb ρ=z:=by
 unfold f2;rw[e1,vJ,e2,vJ];exact e3
theorem qc (e1:c1 ρ=some p)(e2:p=true->c2 ρ=some q):iW c1 c2 ρ=some (p && q):=by
 unfold iW;rw[e1];cases p
 ·rfl
 ·exact e2 rfl
theorem bf (e1:c1 ρ=some p)(e2:p=false->c2 ρ=some q):cN c1 c2 ρ=some (p || q):=by
 unfold cN;rw[e1];cases p
 ·exact e2 rfl
 ·rfl
theorem cL (e1:c1 ρ=some p):c7 c1 ρ=some (!p):=by
 unfold c7;rw[e1];rfl
end
theorem Cp (a c:Nat):decide ([a]<[c])=decide (a<c):=by
 congr 1;rw[List.cons_lt_cons_iff];simp
@[simp] theorem ly (a c:Nat):kx (.str ⟨#[a]⟩) (.str ⟨#[c]⟩)=some (.bl (decide (a<=c)),false):=by
 unfold kx;show some (D.bl (!decide ([c]<[a])),false)=_;rw[Cp];congr 3;by_cases h:c<a
 ·rw[decide_eq_true h,decide_eq_false (by omega)];rfl
 ·rw[decide_eq_false h,decide_eq_true (by omega)];rfl
theorem dR (h:n<=100000):n<sizeLine:=Nat.lt_of_le_of_lt h (by decide)
theorem cu (h:n<=100000):n<=sizeLine:=Nat.le_of_lt (dR h)
theorem rL {α:Type}(l:List α)(g:α->D)(p:α->Bool)(h:α->D)(e:fi ρ=some (l.map g))(hl:l.length<=100000)
  (k:∀x∈l,∃ρ1,tg (g x) (eZ nT cap ρ)=some ρ1/\c ρ1=some (p x)/\(p x=true->∃b,fe ρ1=some (h x,b))):bB fi nT cap tg c fe ρ=some (.lst ((l.filter p).map h),true):=by
 have key:∀l':List α,(∀x∈l',x∈l)->eK tg c fe (eZ nT cap ρ) (l'.map g)=some ((l'.filter p).map h):=by
  intro l';induction l' with
  |nil=>intro _;simp
  |cons x l' ih=>
   intro hm;obtain⟨ρ1,h1,h2,h3⟩:=k x (hm x mX);have ih:=ih λy hy=>hm y (mZ _ hy);rw[uZ,tm,h1,vJ,h2,vJ];cases hp:p x with
   |false=>simp[hp,ih]
   |true=>
    obtain⟨b,h4⟩:=h3 hp;simp[hp,ih,h4]
 unfold bB;rw[e,vJ,if_pos (cu (by simpa using hl)),key l λ_ h=>h,Option.map_some]
theorem eC {α:Type}(l:List α)(g:α->D)(h:α->D)(e:fi ρ=some (l.map g))(hl:l.length<=100000)
  (k:∀x∈l,∃ρ1,tg (g x) (eZ nT cap ρ)=some ρ1/\∃b,fe ρ1=some (h x,b)):bB fi nT cap tg cH fe ρ=some (.lst (l.map h),true):=by
 have:=rL (c:=cH) (fe:=fe) l g (λ_=>true) h e hl λx hx=>by
  obtain⟨ρ1,h1,h2⟩:=k x hx;exact⟨ρ1,h1,rfl,λ_=>h2⟩
 rw[List.filter_eq_self.mpr λ_ _=>rfl]at this;exact this
@[simp] theorem mw {α:Type}(f:α->Bool)(l:List α):t6 (l.map λx=>.bl (f x))=some (l.map f):=by
 induction l with
 |nil=>rfl
 |cons x l ih=>simp[ih]
theorem lK (h0:0<=i)(h:i.toNat<z.cps.size)(hz:z.length<=100000):cb (.str z) (.int i)=some (.str ⟨#[z.cps.toList.getD i.toNat 0]⟩,false):=by
 have hh:i.toNat<z.cps.toList.length:=by simpa using h
 simp only[cb];rw[if_pos (cu hz),pY h0 hh];simp[List.getD,h]
theorem tU (h0:0<=i)(h:i.toNat<ds.length):cb (.lst ds) (.int i)=some (ds.getD i.toNat .non,false):=by
 simp only[cb];rw[pY h0 h];simp[List.getD,h]
theorem yC (h0:0<=i)(h:i.toNat<ds.length):cb (.tup ds) (.int i)=some (ds.getD i.toNat .non,false):=by
 simp only[cb];rw[pY h0 h];simp[List.getD,h]
theorem v7 {xs:List Int}{i:Int}(h0:0<=i)(h:i.toNat<xs.length):cb (.lst (xs.map .int)) (.int i)=some (.int (xs.getD i.toNat 0),false):=by
 rw[tU h0 (by simpa using h)];simp[List.getD,h]
theorem cw (c:Nat):(⟨#[c]⟩:Str).length=1:=rfl
theorem oC (z:Str):gq z=z.cps.toList.map λc=>.str ⟨#[c]⟩:=rfl
theorem mod_lt {x m:Int}(hm:0<m):0<=x % m/\x % m<m:=⟨Int.emod_nonneg _ (by omega),Int.emod_lt_of_pos _ hm⟩
theorem jL (ye:Str)(zs:List Str):(Txt.join ye zs).length<=(zs.map (·.length)).sum+zs.length*ye.length:=by
 unfold Txt.join;rw[StrLaws.glued_eq_join];exact StrLaws.join_length_le ye zs
theorem gN:bQ [.lst ds]=some (.int ds.length,false):=rfl
theorem l5:cI (.int i) (.int j)=some (.bl (decide (i=j)),false):=by simp
theorem jM (h:0<=v):HT.cM n d (some v)=min v.toNat n:=by
 show(if v<0 then (v+(n:Int)).toNat else min v.toNat n)=_;rw[if_neg (by omega)]
theorem dN (x y:D)(e1:fa ρ=some (x,false))(e2:fb ρ=some (y,false))(e3:op x y=z):f2 op fa fb ρ=z:=bq e1 e2 e3
theorem Cq (e:f ρ=some (.bl x,false)):aT f ρ=some x:=aH e
theorem cA (e1:f ρ=some (d,false))(e2:fr ρ=some xs):ac f fr ρ=some (d::xs):=a8 e1 e2
theorem oD (ds:List D)(e:fa ρ=some ds)(k:F ds=x):fA F fa ρ=x:=ak e k
theorem qw (d:D)(e:f ρ=some (d,false))(n:bd d=true)(k:h (ρ.set i (some (d,false)))=r):a7 (bi i f) h ρ=r:=gM e n k
@[simp] noncomputable abbrev Qr (rows:List D)(Jj:Int)(t:Env):Env:=some (.tup rows,false)::some (.int Jj,false)::t
@[simp] noncomputable abbrev eR (ns:List Int)(zs:List Str)(ms:Int)(LH:List Str)(R:List D)(a b:OB)(t:Env):Env:=some (.lst (ns.map .int),false)::some (.lst (zs.map .str),false)::some (.int ms,false)::a::some (.lst (LH.map .str),true)::some (.lst R,true)::b::t
end DL
namespace Lw
open PySem DL
noncomputable def iZ:D:=(.int 255)
noncomputable def mx:D:=(.int 9999)
noncomputable def dS:D:=(.str "abcdefgh")
noncomputable def io:D:=(.int 4)
noncomputable def ip:D:=(.int 9)
noncomputable def iq:D:=(.int 8)
noncomputable def jd:D:=(.int 20)
noncomputable def ej:D:=(.int 8)
noncomputable def eE:D:=(.int 60)
noncomputable def cx:D:=(.str ("-" : PySem.Str))
noncomputable def aV:D:=(.tup [(.str "day"),(.str "since"),(.str "further"),(.str "of")])
noncomputable def aO:List (PySem.Str×D):=[(("root" : Str),(.tup [(.str "office"),(.str "matters"),(.str "further"),(.str "rule")])),(("named" : Str),(.tup [(.str "day"),(.str "office"),(.str "person")])),(("chosen" : Str),(.tup [(.str "day"),(.str "by"),(.str "office"),(.str "person"),(.str "since")])),(("heir" : Str),(.tup [(.str "day"),(.str "by"),(.str "office"),(.str "person")])),(("death" : Str),(.tup [(.str "day"),(.str "person")])),(("lost" : Str),(.tup [(.str "day"),(.str "person")])),(("found" : Str),(.tup [(.str "day"),(.str "person")])),(("leave" : Str),(.tup [(.str "day"),(.str "by"),(.str "person"),(.str "matters"),(.str "stretch"),(.str "further")])),(("paper" : Str),(.tup [(.str "day"),(.str "by"),(.str "matters"),(.str "stretch"),(.str "whom"),(.str "pieces")])),(("like" : Str),(.tup [(.str "day"),(.str "by"),(.str "matters"),(.str "stretch"),(.str "whom"),(.str "of"),(.str "changes")])),(("copy" : Str),(.tup [(.str "day"),(.str "by"),(.str "of")])),(("call" : Str),(.tup [(.str "day"),(.str "by"),(.str "of")]))]
noncomputable def cR:D:=(.tup [(.str "by"),(.str "person"),(.str "whom")])
noncomputable def vF:D:=(.tup [(.str "open"),(.str "first"),(.str "last")])
def my:FS :=
  (aD (ji (fA aF (fV 0 (ac (fC (.ty "int")) ai))) (ji (wW (fA aF (fV 0 (ac (fC (.ty "bool")) ai)))) (db kx kx (af 1) (af 0) (af 2)))))
def dn:=aI my 3 0
def rM:FS :=
  (aD (fA dn (fV 0 (ac (fI 0) (ac (fC mx) ai)))))
def fB:=aI rM 1 0
def jN:FS :=
  (a7 (cZ (cN (c7 (aT (fA aF (fV 0 (ac (fC (.ty "tuple")) ai))))) (cN (aT (f2 tt (fA bQ (fV 0 ai)) (fI 2))) (c7 (aT (fA fB (ac (fZ 0 0) ai)))))) (aD (fC (.bl false))) aJ)
  (aD (Dt (f2 yZ (fZ 0 1) (fC .non)) (ji (fA fB (ac (fZ 0 1) ai)) (f2 yY (fZ 0 0) (fZ 0 1))))))
def dH:=aI jN 1 0
def jO:FS :=
  (aD (fA dn (fV 0 (ac (fI 1) (ac (fC iZ) ai)))))
def eO:=aI jO 1 0
def oE:FS :=
  (a7 (cZ (cN (c7 (aT (fA aF (fV 0 (ac (fC (.ty "str")) ai))))) (c7 (aT (db kx kx (fI 1) (fA bQ (fV 0 ai)) (fC iq))))) (aD (fC (.bl false))) aJ)
  (aD (fA kz (ac (bB (cn (af 0)) 1 [] (dI 0) cH (db kx kx (fS "a") (af 0) (fS "z"))) ai))))
def eW:=aI oE 1 0
def oF:FS :=
  (aD (ji (fA aF (fV 0 (ac (fC (.ty "str")) ai))) (f2 sO (af 0) (fC vF))))
def oG:=aI oF 1 0
def mz:FS :=
  (aD (fA eW (fV 0 ai)))
def fD:=aI mz 1 0
def kW:FS :=
  (a7 (cZ (cN (c7 (aT (fA aF (fV 0 (ac (fC (.ty "tuple")) ai))))) (c7 (aT (db kx kx (fI 1) (fA bQ (fV 0 ai)) (fC ej))))) (aD (fC (.bl false))) aJ)
  (aD (fA kz (ac (bB (cn (af 0)) 1 [] (dI 0) cH (fA fD (fV 0 ai))) ai))))
def fQ:=aI kW 1 0
def kX:FS :=
  (a7 (cZ (cN (c7 (aT (fA aF (fV 0 (ac (fC (.ty "tuple")) ai))))) (aT (f2 tt (fA bQ (fV 0 ai)) (fI 2)))) (aD (fC (.bl false))) aJ)
  (aD (ji (fA dn (ac (fZ 0 0) (ac (fI 0) (ac (f2 yV (fC ej) (fI 1)) ai)))) (fA fD (ac (fZ 0 1) ai)))))
def eF:=aI kX 1 0
def jP:FS :=
  (a7 (cZ (cN (c7 (aT (fA aF (fV 0 (ac (fC (.ty "tuple")) ai))))) (c7 (aT (fA kz (ac (bB (cn (af 0)) 1 [] (dI 0) cH (fA eF (fV 0 ai))) ai))))) (aD (fC (.bl false))) aJ)
  (a7 (bi 1 (bB (cn (af 0)) 1 [] (dI 0) cH (fZ 0 0)))
  (aD (fA kz (ac (bB (xg (af 1) (kA (af 1) (bR (fI 1)) cC)) 2 [] (qT [0,1]) cH (f2 yY (af 0) (af 1))) ai)))))
def gO:=aI jP 1 1
def oH:FS :=
  (a7 (cZ (cN (aT (f2 cI (af 0) (fS "day"))) (aT (f2 cI (af 0) (fS "since")))) (aD (fA fB (fV 1 ai))) aJ)
  (a7 (cZ (cN (aT (f2 cI (af 0) (fS "office"))) (cN (aT (f2 cI (af 0) (fS "by"))) (aT (f2 cI (af 0) (fS "person"))))) (aD (fA eW (fV 1 ai))) aJ)
  (a7 (cZ (aT (f2 cI (af 0) (fS "whom"))) (aD (Dt (f2 yZ (af 1) (fC .non)) (fA eW (fV 1 ai)))) aJ)
  (a7 (cZ (aT (f2 cI (af 0) (fS "matters"))) (aD (fA eO (fV 1 ai))) aJ)
  (a7 (cZ (aT (f2 cI (af 0) (fS "stretch"))) (aD (fA dH (fV 1 ai))) aJ)
  (a7 (cZ (aT (f2 cI (af 0) (fS "further"))) (aD (fA dn (fV 1 (ac (fI 0) (ac (fC ip) ai))))) aJ)
  (a7 (cZ (aT (f2 cI (af 0) (fS "rule"))) (aD (fA oG (fV 1 ai))) aJ)
  (a7 (cZ (aT (f2 cI (af 0) (fS "of"))) (aD (fA dn (fV 1 (ac (fI 0) (ac (f2 yV (fC eE) (fI 1)) ai))))) aJ)
  (a7 (cZ (aT (f2 cI (af 0) (fS "pieces"))) (aD (fA fQ (fV 1 ai))) aJ)
  (aD (fA gO (fV 1 ai))))))))))))
def bg:=aI oH 2 0
def oI:FS :=
  (a7 (cZ (cN (c7 (aT (fA aF (fV 0 (ac (fC (.ty "tuple")) ai))))) (cN (aT (f2 cI (fA bQ (fV 0 ai)) (fI 0))) (c7 (aT (fA aF (ac (fZ 0 0) (ac (fC (.ty "str")) ai))))))) (aD (fC (.bl false))) aJ)
  (a7 (cZ (cN (aT (f1 (jp aO) (fZ 0 0))) (aT (f2 tt (fA bQ (fV 0 ai)) (f2 bp (fI 1) (fA bQ (ac (f1 (fw aO) (fZ 0 0)) ai)))))) (aD (fC (.bl false))) aJ)
  (aD (fA kz (ac (bB (xg (f1 (fw aO) (fZ 0 0)) (kA (af 0) (bR (fI 1)) cC)) 2 [] (qT [0,1]) cH (fA bg (fV 0 (fV 1 ai)))) ai)))))
def kF:=aI oI 1 0
def oJ:FS :=
  (aD (f2 cb (fZ 0 1) (fI 0)))
def bE:=aI oJ 1 0
def oK:FS :=
  (aD (f2 cb (fZ 0 1) (f2 bp (fI 1) (f2 (mj aO) (fA bE (fV 0 ai)) (af 1)))))
def du:=aI oK 2 0
def rN:FS :=
  (a7 (cZ (aT (f2 cI (fA bE (fV 0 ai)) (fS "root"))) (aD (fC .non)) aJ)
  (aD (fA du (fV 0 (ac (fS "day") ai)))))
def jQ:=aI rN 1 0
def kY:FS :=
  (a7 (bi 1 (fA jQ (fV 0 ai)))
  (a7 (cZ (aT (f2 yZ (af 1) (fC .non))) (aD (fC (.bl true))) aJ)
  (a7 (cZ (iW (aT (f2 cI (fA bE (fV 0 ai)) (fS "chosen"))) (aT (f2 yY (fA du (fV 0 (ac (fS "since") ai))) (af 1)))) (aD (fC (.bl false))) aJ)
  (aD (f2 kx (af 1) (fZ 0 0))))))
def ir:=aI kY 1 1
def rO:FS :=
  (a7 (cZ (cN (c7 (aT (fA aF (fV 0 (ac (fC (.ty "tuple")) ai))))) (aT (f2 tt (fA bQ (fV 0 ai)) (fI 2)))) (aD (fC (.bl false))) aJ)
  (aD (ji (fA fB (ac (fZ 0 0) ai)) (ji (fA kF (ac (fZ 0 1) ai)) (fA ir (fV 0 ai))))))
def jR:=aI rO 1 0
def iu:FS :=
  (aD (bB (cn (af 0)) 1 [] (dI 0) (aT (f2 cI (fA bE (fV 0 ai)) (fS "root"))) (fA du (fV 0 (ac (fS "office") ai)))))
def fE:=aI iu 1 0
def gy:FS :=
  (aD (ji (f2 cI (fA bE (fV 1 ai)) (fS "root")) (f2 sO (fA du (fV 1 (ac (fS "office") ai))) (fA fE (fV 0 ai)))))
def dU:=aI gy 2 0
def m3:FS :=
  (aD (Mn (f1 (fw aO) (fA bE (fV 0 ai))) (kA (fZ 0 1) (bR (fI 1)) cC)))
def cS:=aI m3 1 0
def kZ:FS :=
  (a7 (bi 1 (bB (cn (fA cS (fV 0 ai))) 2 [] (qT [0,1]) (iW (aT (f2 sO (af 0) (fC cR))) (aT (f2 pH (af 1) (fC .non)))) (af 1)))
  (aD (f1 jF (af 1))))
def eG:=aI kZ 1 1
def hJ:FS :=
  (qW 1 (fA eG (fV 2 ai)))
def iz:FS :=
  (a7 (bi 1 (fA aY ai))
  (a7 (ll (cn (af 0)) (dI 2) hJ)
  (aD (f1 jG (af 1)))))
def fF:=aI iz 1 2
def jS:FS :=
  (a7 (cZ (cN (aT (f2 Mm (af 1) (fC eE))) (c7 (aT (fA jR (ac (f2 cb (af 0) (af 1)) ai))))) (aD (fC (.bl true))) aJ)
  (aD (Dt (fA dU (ac (kA (af 0) cC (bR (af 1))) (ac (f2 cb (af 0) (af 1)) ai))) (f2 EQ (fA fF (ac (kA (af 0) cC (bR (f2 bp (af 1) (fI 1)))) ai)) (fC jd)))))
def gP:=aI jS 2 0
def i0:FS :=
  (cZ (aT (fA gP (fV 1 (fV 2 ai)))) fY aJ)
def je:FS :=
  (a7 (cZ (c7 (aT (fA pV (fV 0 (ac (fA bM (ac (fC (.ty "list")) (ac (fC (.ty "tuple")) ai))) ai))))) fY aJ)
  (a7 (bi 1 (fA bH (fV 0 ai)))
  (a7 (j8 (dc (fA bQ (fV 1 ai))) (dI 2) i0)
  (kP 1))))
def cE:=aI je 1 2
def jT:FS :=
  (a7 (cZ (cN (c7 (aT (db kx kx (fI 1) (fA bQ (fV 0 ai)) (fC io)))) (c7 (aT (fA kz (ac (bB (cn (af 0)) 1 [] (dI 0) cH (db kx kx (fS ("0" : PySem.Str)) (af 0) (fS ("9" : PySem.Str)))) ai))))) (aD (fC (.bl false))) aJ)
  (aD (Dt (f2 cI (af 0) (fS ("0" : PySem.Str))) (f2 tt (fZ 0 0) (fS ("0" : PySem.Str))))))
def eP:=aI jT 1 0
def la:FS :=
  (aD (p8 (aT (fA eP (fV 0 ai))) (fA Ic (fV 0 ai)) (f1 BU (fI 1))))
def bW:=aI la 1 0
def rP:FS :=
  (aD (bB (dc (f1 vh (af 0))) 1 [0] (dI 0) (aT (f2 cI (f2 Hw (f2 Hv (af 1) (af 0)) (fI 1)) (fI 1))) (af 0)))
def rQ:=aI rP 1 0
def jU:FS :=
  (aD (f2 dg (fS "") (bB (cn (fA rQ (fV 0 ai))) 1 [] (dI 0) cH (f2 cb (fC dS) (af 0)))))
def eQ:=aI jU 1 0
def nE:FS :=
  (cZ (aT (f2 Mq (af 3) (af 0))) (bi 1 (f2 Mp (af 1) (f2 Ia (fI 1) (af 2)))) aJ)
def jV:FS :=
  (a7 (bi 1 (fI 0))
  (a7 (ll (zS (fC dS)) (qT [2,3]) nE)
  (aD (p8 (aT (f2 cI (fA eQ (fV 1 ai)) (af 0))) (af 1) (fI 0)))))
def gQ:=aI jV 1 3
def oM:FS :=
  (aD (p8 (aT (f2 cI (af 0) (fC cx))) (fC .non) (fA bW (fV 0 ai))))
def kG:=aI oM 1 0
def jW:FS :=
  (a7 (bi 1 (bB (iI (fI 0) (fA bQ (fV 0 ai)) (fI 2)) 1 [0] (dI 0) cH (kA (af 1) (bR (af 0)) (bR (f2 bp (af 0) (fI 2))))))
  (aD (fA bH (ac (bB (cn (af 1)) 1 [] (dI 0) cH (fA bH (ac (f2 bp (fA aY (ac (fA bW (ac (fZ 0 0) ai)) ai)) (kA (af 0) (bR (fI 1)) cC)) ai))) ai))))
def gR:=aI jW 1 1
def m4:FS :=
  (a7 (cZ (aT (f2 sO (af 0) (fC aV))) (aD (fA bW (ac (fZ 1 0) ai))) aJ)
  (a7 (cZ (aT (f2 cI (af 0) (fS "matters"))) (aD (fA gQ (ac (fZ 1 0) ai))) aJ)
  (a7 (cZ (aT (f2 cI (af 0) (fS "stretch"))) (aD (fA bM (ac (fA bW (ac (fZ 1 0) ai)) (ac (fA kG (ac (fZ 1 1) ai)) ai)))) aJ)
  (a7 (cZ (aT (f2 cI (af 0) (fS "whom"))) (aD (p8 (aT (f2 cI (fZ 1 0) (fC cx))) (fC .non) (fZ 1 0))) aJ)
  (a7 (cZ (aT (f2 cI (af 0) (fS "pieces"))) (aD (fA bH (fV 1 ai))) aJ)
  (a7 (cZ (aT (f2 cI (af 0) (fS "changes"))) (aD (fA gR (fV 1 ai))) aJ)
  (aD (fZ 1 0))))))))
def dW:=aI m4 2 0
def jf:FS :=
  (a7 (cZ (aT (f2 cI (af 0) (fS "stretch"))) (aD (fI 2)) aJ)
  (a7 (cZ (cN (aT (f2 cI (af 0) (fS "pieces"))) (aT (f2 cI (af 0) (fS "changes")))) (aD (fA bQ (fV 1 ai))) aJ)
  (aD (fI 1))))
def dh:=aI jf 2 0
def jt:FS :=
  (a7 (bi 4 (fA dh (fV 3 (fV 2 ai))))
  (a7 (cZ (aT (f2 EQ (af 4) (fA bQ (fV 2 ai)))) (aD (fC .non)) aJ)
  (a7 (nr 1 (fA dW (fV 3 (ac (kA (af 2) cC (bR (af 4))) ai))))
  (bi 2 (kA (af 2) (bR (af 4)) cC)))))
def oN:FS :=
  (a7 (bi 1 (kA (af 0) cC (bR (fI 1))))
  (a7 (bi 2 (kA (af 0) (bR (fI 1)) cC))
  (a7 (ll (cn (f1 (fw aO) (fZ 0 0))) (dI 3) jt)
  (aD (p8 (aT (f2 cI (fA bQ (fV 2 ai)) (fI 0))) (fA bH (fV 1 ai)) (fC .non))))))
def kH:=aI oN 1 4
def rR:FS :=
  (a7 (bi 1 (f2 gL (af 0) (fS " ")))
  (a7 (cZ (cN (aT (f2 yY (fA bQ (fV 1 ai)) (fI 2))) (aT (f1 (jp aO) (fZ 1 1)))) (aD (fC .non)) aJ)
  (a7 (bi 2 (fA bM (ac (fA bW (ac (fZ 1 0) ai)) (ac (fA kH (ac (kA (af 1) (bR (fI 1)) cC) ai)) ai))))
  (aD (p8 (aT (fA jR (fV 2 ai))) (af 2) (fC .non))))))
def jX:=aI rR 1 2
def zY:FS :=
  (a7 (cZ (c7 (aT (fA aF (fV 0 (ac (fC (.ty "str")) ai))))) fY aJ)
  (a7 (bi 1 (p8 (aT (f2 tt (af 0) (fS ""))) (f2 gL (af 0) (fS ("\n" : PySem.Str))) (fA aY ai)))
  (a7 (bi 2 (bB (cn (af 1)) 1 [] (dI 0) cH (fA jX (fV 0 ai))))
  (a7 (cZ (aT (f2 Jy (fC .non) (af 2))) fY aJ)
  (aD (fA cE (fV 2 ai)))))))
def tV:=aI zY 1 2
def m5:FS :=
  (a7 (cZ (aT (f2 cI (af 0) (fS "matters"))) (aD (fA aY (ac (fA eQ (fV 1 ai)) ai))) aJ)
  (a7 (cZ (aT (f2 cI (af 0) (fS "pieces"))) (aD (fA dF (fV 1 ai))) aJ)
  (a7 (cZ (cN (aT (f2 cI (af 0) (fS "stretch"))) (aT (f2 cI (af 0) (fS "whom")))) (a7 (bi 2 (p8 (aT (f2 cI (af 0) (fS "stretch"))) (af 1) (fA bM (fV 1 ai))))
  (aD (bB (cn (af 2)) 1 [] (dI 0) cH (p8 (aT (f2 yZ (af 0) (fC .non))) (fC cx) (fA gu (fV 0 ai)))))) aJ)
  (a7 (cZ (aT (f2 cI (af 0) (fS "changes"))) (aD (bB (cn (af 1)) 2 [] (qT [0,1]) cH (Ig (af 0) (" " : Str) (af 1)))) aJ)
  (aD (fA aY (ac (fA gu (fV 1 ai)) ai)))))))
def cT:=aI m5 2 1
def ju:FS :=
  (qW 1 (fA cT (fV 2 (fV 3 ai))))
def oP:FS :=
  (a7 (bi 1 (fA aY (ac (fA gu (ac (fZ 0 0) ai)) (ac (fA bE (fV 0 ai)) ai))))
  (a7 (ll (cn (fA cS (fV 0 ai))) (qT [2,3]) ju)
  (aD (f2 dg (fS " ") (af 1)))))
def iJ:=aI oP 1 3
def vL:FS :=
  (aD (f2 dg (fS ("\n" : PySem.Str)) (bB (cn (af 0)) 1 [] (dI 0) cH (fA iJ (fV 0 ai)))))
def l7:=aI vL 1 0
def rS:FS :=
  (a7 (cZ (aT (f2 yY (af 1) (fA bQ (fV 0 ai)))) (aD (f2 cb (af 0) (af 1))) aJ)
  (a7 (bi 2 (f2 bp (f2 iQ (fI 40009) (af 1)) (fI 23)))
  (a7 (cZ (aT (f2 EQ (fA bQ (fV 0 ai)) (fI 0))) (bi 2 (f2 bp (f2 bp (f2 iQ (f2 cb (af 0) (f2 bc (f2 iQ (af 1) (fI 17)) (fA bQ (fV 0 ai)))) (fI 16807)) (f2 iQ (f2 iQ (af 1) (af 1)) (fI 4001))) (fI 9))) aJ)
  (aD (f2 bc (f2 Fg (af 2) (af 2)) (fI 2147483549))))))
def bX:=aI rS 2 1
def m6:FS :=
  (a7 (bi 6 (fA dF (fV 2 ai)))
  (a7 (zr 6 (af 3) (f2 cb (af 1) (f2 bc (f2 bp (f2 b9 (af 0) (fI 64)) (f2 iQ (fI 3) (af 5))) (fI 26))))
  (nr 4 (f2 dg (fS "") (af 6)))))
def oQ:FS :=
  (a7 (bi 1 (fS "abcdefghijklmnopqrstuvwxyz"))
  (a7 (bi 2 (bB (dc (f2 bp (fI 1) (f2 bc (af 0) (fI 8)))) 1 [1,0] (dI 0) cH (f2 cb (af 1) (f2 bc (f2 b9 (af 2) (f2 bp (fI 3) (f2 iQ (fI 4) (af 0)))) (fI 26)))))
  (a7 (bi 3 (f2 bc (f2 b9 (af 0) (fI 8)) (fA bQ (fV 2 ai))))
  (a7 (bi 4 (fA aY ai))
  (a7 (j8 (dc (fI 6)) (dI 5) m6)
  (a7 (cZ (aT (f2 cI (f2 bc (f2 b9 (af 0) (fI 1664)) (fI 3)) (fI 1))) (aD (fA aY (ac (fS "leave") (ac (fS "paper") (ac (fS "root") (ac (fS "open") (ac (fS "a") (ac (fS "copy") ai)))))))) aJ)
  (kP 4)))))))
def kI:=aI oQ 1 6
def lb:FS :=
  (a7 (bi 2 (bB (dc (fI 8)) 1 [0] (dI 0) (aT (f2 cI (f2 bc (f2 b9 (af 1) (f2 cb (fA bM (ac (fI 1) (ac (fI 2) (ac (fI 4) (ac (fI 8) (ac (fI 16) (ac (fI 32) (ac (fI 64) (ac (fI 128) ai))))))))) (af 0))) (fI 2)) (fI 1))) (af 0)))
  (aD (fA bH (ac (bB (cn (af 2)) 1 [1,0] (dI 0) cH (fA bM (fV 0 (ac (f2 cb (af 1) (f2 bc (f2 bp (af 2) (af 0)) (fI 6))) ai)))) ai))))
def i6:=aI lb 2 1
def rT:FS :=
  (a7 (bi 4 (fA bM (ac (f2 bc (f2 b9 (af 0) (fI 13)) (f2 cb (fA aY (ac (fI 40) (ac (fI 9999) ai))) (f2 bc (f2 b9 (af 0) (fI 3)) (fI 2)))) (ac (fC .non) ai))))
  (a7 (cZ (aT (f2 cI (f2 bc (f2 b9 (af 0) (fI 7)) (fI 2)) (fI 1))) (bi 4 (fA bM (ac (fZ 4 0) (ac (fA lm (ac (fI 9999) (ac (f2 bp (f2 bp (fZ 4 0) (fI 1)) (f2 bc (f2 b9 (af 0) (fI 11)) (fI 900))) ai))) ai)))) aJ)
  (a7 (bi 5 (f2 cb (af 3) (f2 bc (f2 b9 (af 0) (fI 3)) (fI 4))))
  (a7 (bi 6 (f2 cb (af 3) (f2 bc (f2 b9 (af 0) (fI 17)) (fI 4))))
  (a7 (bi 7 (f2 bp (fI 1) (f2 bc (f2 b9 (af 0) (fI 5)) (fI 255))))
  (a7 (bi 8 (f2 cb (fA aY (ac (fC .non) (fV 6 ai))) (f2 bc (af 0) (fI 2))))
  (a7 (bi 9 (fA aY (ac (fA bM (ac (fS "named") (fV 2 (ac (fZ 3 4) (fV 5 ai))))) (ac (fA bM (ac (fS "chosen") (fV 2 (fV 5 (ac (fZ 3 4) (fV 6 (ac (fA lm (ac (fI 9999) (ac (f2 bp (af 2) (f2 bc (f2 b9 (af 0) (fI 19)) (fI 50))) ai))) ai))))))) ai))))
  (a7 (bi 9 (f2 bp (af 9) (fA aY (ac (fA bM (ac (fS "heir") (fV 2 (fV 5 (ac (fZ 3 5) (fV 6 ai)))))) (ac (fA bM (ac (fS "death") (fV 2 (fV 5 ai)))) (ac (fA bM (ac (fS "lost") (fV 2 (fV 5 ai)))) (ac (fA bM (ac (fS "found") (fV 2 (fV 6 ai)))) ai)))))))
  (a7 (bi 9 (f2 bp (af 9) (fA aY (ac (fA bM (ac (fS "leave") (fV 2 (fV 5 (fV 6 (fV 7 (fV 4 (ac (f2 bc (f2 b9 (af 0) (fI 23)) (fI 10)) ai)))))))) ai))))
  (a7 (bi 10 (fA bH (ac (f2 bp (kA (af 3) cC (bR (f2 bp (fI 1) (f2 bc (f2 b9 (af 0) (fI 29)) (fI 6))))) (kA (af 3) cC (bR (f2 bc (f2 b9 (af 0) (fI 31)) (fI 3))))) ai)))
  (a7 (bi 9 (f2 bp (af 9) (fA aY (ac (fA bM (ac (fS "paper") (fV 2 (fV 5 (fV 7 (fV 4 (fV 8 (fV 10 ai)))))))) ai))))
  (a7 (bi 9 (f2 bp (af 9) (fA aY (ac (fA bM (ac (fS "like") (fV 2 (fV 5 (fV 7 (fV 4 (fV 8 (ac (f2 bc (f2 b9 (af 0) (fI 29)) (fI 60)) (ac (fA i6 (ac (f2 b9 (af 0) (fI 1740)) (fV 3 ai))) ai))))))))) ai))))
  (aD (f2 cb (f2 bp (af 9) (fA aY (ac (fA bM (ac (fS "copy") (fV 2 (fV 6 (ac (f2 bc (f2 b9 (af 0) (fI 29)) (fI 60)) ai))))) (ac (fA bM (ac (fS "call") (fV 2 (fV 5 (ac (f2 bc (f2 b9 (af 0) (fI 31)) (fI 60)) ai))))) ai)))) (af 1)))))))))))))))
def gz:=aI rT 4 7
def oR:FS :=
  (a7 (bi 4 (f2 bc (fA bX (fV 0 (ac (f2 bp (fI 2) (af 3)) ai))) (f2 EO (fI 10) (fI 15))))
  (a7 (bi 5 (f2 bc (f2 b9 (af 4) (fI 12)) (f2 cb (fA aY (ac (fI 3) (ac (fI 31) (ac (fI 10000) ai)))) (f2 bc (fA bX (fV 0 (ac (fI 1) ai))) (fI 3)))))
  (a7 (bi 6 (fA bM (ac (fS "root") (ac (f2 cb (af 1) (f2 bp (fI 4) (f2 bc (af 3) (fI 2)))) (ac (f2 bp (fI 1) (f2 bc (f2 b9 (af 4) (fI 5)) (fI 255))) (ac (f2 bc (f2 b9 (af 4) (fI 7)) (fI 10)) (ac (f2 cb (fA aY (ac (fS "open") (ac (fS "first") (ac (fS "last") ai)))) (f2 bc (f2 b9 (af 4) (fI 9)) (fI 3))) ai)))))))
  (a7 (cZ (cN (aT (f2 EQ (af 3) (fI 1))) (aT (f2 yY (f2 bc (af 4) (fI 12)) (fI 8)))) (bi 6 (fA gz (ac (f2 b9 (af 4) (fI 12)) (ac (f2 bc (af 4) (fI 11)) (fV 5 (fV 1 ai)))))) aJ)
  (nr 2 (fA bM (ac (fA lm (ac (fI 9999) (ac (f2 bp (af 5) (f2 cb (fA aY (ac (fI 0) (ac (fI 0) (ac (fI 1) (ac (f2 bc (f2 b9 (af 4) (fI 37)) (fI 99)) ai))))) (f2 bc (f2 b9 (af 4) (fI 41)) (fI 4)))) ai))) (fV 6 ai))))))))
def rV:FS :=
  (a7 (bi 1 (fA kI (ac (fA bX (fV 0 (ac (fI 0) ai))) ai)))
  (a7 (bi 2 (fA aY ai))
  (a7 (j8 (dc (f2 cb (fA aY (ac (fA lm (ac (fI 30) (ac (f2 bp (fA bQ (fV 0 ai)) (fI 2)) ai))) (ac (fI 30) ai))) (f2 bc (f2 b9 (fA bX (fV 0 (ac (fI 1) ai))) (fI 99)) (fI 2)))) (dI 3) oR)
  (kP 2))))
def m7:=aI rV 1 6
def rW (Fr:List D->OB):FS :=
  (a7 (cZ (aT (f2 cI (af 0) (fS "m"))) (aD (f2 dg (fS "") (bB (dc (fI 8)) 1 [1] (dI 0) (aT (f2 cI (f2 bc (f2 b9 (af 1) (f2 cb (fA bM (ac (fI 1) (ac (fI 2) (ac (fI 4) (ac (fI 8) (ac (fI 16) (ac (fI 32) (ac (fI 64) (ac (fI 128) ai))))))))) (af 0))) (fI 2)) (fI 1))) (f2 cb (fS "abcdefgh") (af 0))))) aJ)
  (a7 (cZ (aT (f2 cI (af 0) (fS "s"))) (aD (f2 bp (f2 bp (fA gu (ac (fZ 1 0) ai)) (fS " ")) (fA Fr (ac (fS "n") (ac (fZ 1 1) ai))))) aJ)
  (a7 (cZ (aT (f2 yZ (af 1) (fC .non))) (aD (fS ("-" : PySem.Str))) aJ)
  (a7 (cZ (aT (f2 cI (af 0) (fS "p"))) (aD (f2 dg (fS " ") (af 1))) aJ)
  (aD (fA gu (fV 1 ai)))))))
def bI:Nat->List D->OB
 |0=>aI fY 2 0
 |n+1=>aI (rW (bI n)) 2 0
def kJ:FS :=
  (nr 4 (f2 bp (f2 bp (fA gu (fV 7 ai)) (fS " ")) (af 8)))
def oS:FS :=
  (cZ (iW (aT (f2 cI (fZ 2 0) (fS "like"))) (aT (f2 cI (af 6) (fI 7)))) (HL [2] (ll (cn (fZ 2 7)) (qT [7,8]) kJ)) (nr 4 (fA (bI 6) (ac (f2 cb (af 5) (f2 yV (af 6) (fI 1))) (ac (f2 cb (af 2) (af 6)) ai)))))
def rX:FS :=
  (a7 (vo [1,2] (af 0))
  (a7 (rE 3 [(("root" : Str),(fS "nmnn")),(("leave" : Str),(fS "nnnmsn")),(("paper" : Str),(fS "nnmsnp")),(("like" : Str),(fS "nnmsnn"))])
  (a7 (bi 4 (fA aY (ac (fA gu (fV 1 ai)) (ac (fZ 2 0) ai))))
  (a7 (bi 5 (D5 (af 3) (fZ 2 0) (fS "nnnnn")))
  (a7 (j8 (lx (fI 1) (fA bQ (fV 2 ai))) (dI 6) oS)
  (aD (f2 dg (fS " ") (af 4))))))))
def i7:=aI rX 1 8
def rY (Fr:List D->OB):FS :=
  (a7 (cZ (aT (fA aF (fV 1 (ac (fC (.ty "tuple")) ai)))) (a7 (cZ (cN (c7 (aT (fA aF (fV 0 (ac (fC (.ty "tuple")) ai))))) (aT (f2 tt (fA bQ (fV 0 ai)) (fA bQ (fV 1 ai))))) (aD (fC (.bl false))) aJ)
  (aD (f2 cI (fA bQ (ac (bB (dc (fA bQ (fV 1 ai))) 1 [0,1] (dI 0) (c7 (aT (fA Fr (ac (f2 cb (af 1) (af 0)) (ac (f2 cb (af 2) (af 0)) ai))))) (af 0)) ai)) (fI 0)))) aJ)
  (a7 (cZ (aT (f2 yZ (af 1) (fC .non))) (aD (f2 yZ (af 0) (fC .non))) aJ)
  (a7 (cZ (aT (fA aF (fV 1 (ac (fC (.ty "int")) ai)))) (aD (ji (fA aF (fV 0 (ac (fC (.ty "int")) ai))) (ji (wW (fA aF (fV 0 (ac (fC (.ty "bool")) ai)))) (f2 cI (af 0) (af 1))))) aJ)
  (aD (ji (fA aF (fV 0 (ac (fC (.ty "str")) ai))) (f2 cI (af 0) (af 1)))))))
def g6:Nat->List D->OB
 |0=>aI fY 2 0
 |n+1=>aI (rY (g6 n)) 2 0
def qd:FS :=
  (a7 (bi 4 (f2 dg (fS ("\n" : PySem.Str)) (bB (cn (af 3)) 1 [] (dI 0) cH (fA i7 (fV 0 ai)))))
  (a7 (bi 5 (fA tV (fV 4 ai)))
  (a7 (cZ (cN (c7 (aT (fA (g6 6) (fV 5 (ac (fA bH (fV 3 ai)) ai))))) (aT (f2 tt (af 5) (fA cE (ac (fA dF (fV 3 ai)) ai))))) (aD (fC (.bl false))) aJ)
  (a7 (bi 6 (fA l7 (fV 5 ai)))
  (cZ (cN (c7 (aT (fA aF (fV 6 (ac (fC (.ty "str")) ai))))) (cN (aT (f2 tt (af 6) (af 4))) (aT (f2 tt (fA l7 (ac (fA cE (ac (fA dF (fV 3 ai)) ai)) ai)) (af 4))))) (aD (fC (.bl false))) aJ)))))
def D6:FS :=
  (a7 (bi 1 (fA m7 (fV 0 ai)))
  (a7 (bi 2 (f2 bc (f2 b9 (fA bX (fV 0 (ac (fI 1) ai))) (fI 3)) (f2 bp (fA bQ (fV 1 ai)) (fI 1))))
  (a7 (HL [1,2] (ll (cn (fA aY (fV 1 (ac (kA (af 1) cC (bR (af 2))) (ac (fA aY ai) ai))))) (dI 3) qd))
  (aD (fC (.bl true))))))
def F_law:=aI D6 1 6
end Lw
namespace DL
open PySem L2
theorem jv:∀(n m:Nat)(d:D),n<=m->aN n d=true->aN m d=true
 |n,m,.non,_,_=>by simp
 |n,m,.bl _,_,_=>by simp
 |n,m,.int _,_,_=>by simp
 |n,m,.str _,_,_=>by simp
 |n,m,.ty _,_,h=>by cases n<;>simp[aN]at h
 |n,m,.dk _ _,_,h=>by simp at h
 |n,m,.dt _ _,_,h=>by simp at h
 |0,m,.tup _,_,h=>by simp[aN]at h
 |0,m,.lst _,_,h=>by simp[aN]at h
 |n+1,0,_,h,_=>by omega
 |n+1,m+1,.tup ds,hl,h=>by
  simp only[aN,List.all_eq_true]at h ⊢;exact λd hd=>jv n m d (by omega) (h d hd)
 |n+1,m+1,.lst ds,hl,h=>by
  simp only[aN,List.all_eq_true]at h ⊢;exact λd hd=>jv n m d (by omega) (h d hd)
theorem kK:∀(ds:List D),(∀d∈ds,cU d d=true)->hV ds ds=true
 |[],_=>by simp only[hV]
 |d::ds,h=>by
  simp only[hV,h d mX,Bool.true_and];exact kK ds λe he=>h e (mZ _ he)
theorem m8:∀(n:Nat)(d:D),aN n d=true->cU d d=true
 |n,.non,_=>by simp
 |n,.bl _,_=>by simp
 |n,.int _,_=>by simp
 |n,.str _,_=>by simp
 |n,.ty _,h=>by cases n<;>simp[aN]at h
 |n,.dk _ _,h=>by simp at h
 |n,.dt _ _,h=>by simp at h
 |0,.tup _,h=>by simp[aN]at h
 |0,.lst _,h=>by simp[aN]at h
 |n+1,.tup ds,h=>by
  simp only[aN,List.all_eq_true]at h;simp only[cU];exact kK ds λd hd=>m8 n d (h d hd)
 |n+1,.lst ds,h=>by
  simp only[aN,List.all_eq_true]at h;simp only[cU];exact kK ds λd hd=>m8 n d (h d hd)
end DL
namespace Lw
open PySem PySem.Spec DL L2
noncomputable def jn (c:Nat):List (List Nat)->List Nat
 |[]=>[]
 |[x]=>x
 |x::y::r=>x++c::jn c (y::r)
theorem zZ {c:Nat}:∀ {x y r s:List Nat},c∉x->c∉y->x++c::r=y++c::s->x=y/\r=s
 |[],[],r,s,_,_,e=>by simpa using e
 |[],b::y,r,s,_,hy,e=>by
  simp at e hy;exact absurd e.1 hy.1
 |a::x,[],r,s,hx,_,e=>by
  simp at e hx;exact absurd e.1.symm hx.1
 |a::x,b::y,r,s,hx,hy,e=>by
  simp at e hx hy;obtain⟨h1,h2⟩:=zZ hx.2 hy.2 e.2;exact⟨by rw[e.1,h1],h2⟩
theorem Aa {c:Nat}:∀ {l m:List (List Nat)},(∀x∈l,c∉x)->(∀x∈m,c∉x)->l≠[]->m≠[]->jn c l=jn c m->l=m
 |[],_,_,_,h,_,_=>absurd rfl h
 |_::_,[],_,_,_,h,_=>absurd rfl h
 |[x],[y],_,_,_,_,e=>by have e:x=y:=e;rw[e]
 |[x],y::z::r,hl,_,_,_,e=>by
  have e:x=y++c::jn c (z::r):=e;exact absurd (by rw[e];simp) (hl x (by simp))
 |x::z::r,[y],_,hm,_,_,e=>by
  have e:x++c::jn c (z::r)=y:=e;exact absurd (by rw[←e];simp) (hm y (by simp))
 |x::z::r,y::w::s,hl,hm,_,_,e=>by
  have e:x++c::jn c (z::r)=y++c::jn c (w::s):=e;obtain⟨h1,h2⟩:=zZ (hl x (by simp)) (hm y (by simp)) e;rw[h1,Aa (l:=z::r) (m:=w::s) (λa h=>hl a (mZ _ h)) (λa h=>hm a (mZ _ h)) (by simp) (by simp) h2]
theorem jY (c:Nat):∀ws:List Str,(Str.join ⟨#[c]⟩ ws).cps.toList=jn c (ws.map (·.cps.toList))
 |[]=>rfl
 |[x]=>rfl
 |x::y::r=>by
  show((x++⟨#[c]⟩++Str.join ⟨#[c]⟩ (y::r):Str).cps).toList=x.cps.toList++c::jn c ((y::r).map (·.cps.toList));rw[←jY c (y::r)];show((x.cps++#[c])++(Str.join ⟨#[c]⟩ (y::r)).cps).toList=_;simp
theorem fG (ye:Str)(ws:List Str):Txt.join ye ws=Str.join ye ws:=StrLaws.glued_eq_join ye ws
theorem tW (x y:Str):Txt.split x y≠[]:=λh=>by have:=PyProof.Rows.split_pos x y;rw[h]at this;simp at this
theorem m9 {c:Nat}{ws:List Str}(h0:ws≠[])(h:∀w∈ws,c∉w.cps.toList):Txt.split (Txt.join ⟨#[c]⟩ ws) ⟨#[c]⟩=ws:=by
 rw[fG];have e:=congrArg (λz:Str=>z.cps.toList) (StrLaws.join_split (Str.join ⟨#[c]⟩ ws) ⟨#[c]⟩);simp only[jY]at e;have hf:=StrLaws.split_free (Str.join ⟨#[c]⟩ ws) c;have:=Aa (c:=c) (by
  intro x hx;obtain⟨z,hz,rfl⟩:=vO hx;exact hf z hz) (by
  intro x hx;obtain⟨z,hz,rfl⟩:=vO hx;exact h z hz) (by simp[tW]) (by simp[h0]) e
 have inj:∀ {a b:Str},a.cps.toList=b.cps.toList->a=b:=λ{a b} e=>by
  obtain⟨a⟩:=a;obtain⟨b⟩:=b;simp at e;rw[e]
 exact List.map_inj_right (λa b e=>inj e) |>.mp this
end Lw
namespace Lw
open PySem DL L2
theorem qx (d:D)(r:List D):nn (d::r) 0=some d:=by have:=js (xs:=d::r) (j:=0) (by simp);simpa using this
theorem yo (d e:D)(r:List D):nn (d::e::r) 1=some e:=by have:=js (xs:=d::e::r) (j:=1) (by simp);simpa using this
theorem aW (zs:List Str):aS (zs.map D.str)=true:=by
 induction zs with
 |nil=>rfl
 |cons a l ih=>simp[ih]
theorem bP {ds:List D}(h:∀d∈ds,bd d=true):aS ds=true:=by
 induction ds with
 |nil=>rfl
 |cons d r ih=>simp[h d (by simp),ih λe he=>h e (by simp[he])]
theorem xD (d:D)(r:List D):iP (d::r) (some 1) none=r:=by
 unfold iP;rw[jM (v:=1) (by decide)];have:HT.cM (d::r).length (d::r).length none=(d::r).length:=rfl;rw[this];have:min (1:Int).toNat (d::r).length=1:=by simp
 rw[this];simp
theorem g9 (rows:List D)(n:Nat):iP rows none (some (n:Int))=rows.take n:=by
 unfold iP;rw[HT.y6,HT.Bs];simp
theorem oV {op:D->OB}{fa:FE}{ρ:DL.Env}{x:D}{b:Bool}{z:OB}(e1:fa ρ=some (x,b))(e2:op x=z):f1 op fa ρ=z:=by unfold f1;rw[e1];exact e2
theorem rZ (parts:List Str)(rest:List D):fu (parts.map .str) rest=(parts.zip rest).map λx=>.tup [.str x.1,x.2]:=by
 induction parts generalizing rest with
 |nil=>rfl
 |cons a l ih=>
  cases rest with
  |nil=>rfl
  |cons d r=>have:=ih r;unfold fu at this ⊢;simp[this]
theorem jZ {α:Type}(l:List α):kz [.lst (l.map λ_=>.bl true)]=some (.bl true,false):=by
 have:=mw (λ_:α=>true) l;simp only[kz,this,Option.map_some];congr 2;simp
noncomputable def fR (c:Nat):Bool:=decide (97<=c) && decide (c<=122)
theorem Fm:("a" : Str)=⟨#[97]⟩:=by decide +kernel
theorem Fo:("z" : Str)=⟨#[122]⟩:=by decide +kernel
theorem sd (c:Nat)(ρ:DL.Env)(h:ρ[0]? = some (some (.str ⟨#[c]⟩,false))):db kx kx (fC (.str "a")) (af 0) (fC (.str "z")) ρ=some (.bl (fR c),false):=by
 refine gv (x:=.str ⟨#[97]⟩) (y:=.str ⟨#[c]⟩) (z:=.str ⟨#[122]⟩) (b1:=false) (b2:=false) (b3:=false) (b4:=false) ?_ ?_ ?_ (ly _ _) λ_=>ly _ _
 ·rw[Fm];rfl
 ·simp[h]
 ·rw[Fo];rfl
noncomputable def gb (z:Str):Bool:=(decide (1<=z.length) && decide (z.length<=8)) && z.cps.toList.all fR
theorem gA (z:Str):z.cps.toList.length=z.length:=by simp[Str.length]
theorem ka {z:Str}(h:gb z=true):eW [.str z]=some (.bl true,false):=by
 unfold gb at h;rw[vD,vD]at h;obtain⟨⟨h1,h8⟩,ha⟩:=h;have h1:=of_decide_eq_true h1;have h8:=of_decide_eq_true h8;have hl:z.length<=sizeLine:=cu (by omega);refine ao rfl (am (bf (p:=false) (q:=false) (by simp) λ_=>cL (p:=true) (aH (b:=false) ((gv (x:=.int 1) (y:=.int z.length) (z:=.int 8) (b1:=false) (b2:=false) (b3:=false) (b4:=false) (p:=true) (q:=true) rfl (by simp[hl]) rfl (by simp;omega) λ_=>by simp;omega).trans rfl))) (aw (ak (ds:=[.lst (z.cps.toList.map λc=>.bl (fR c))]) ?_ ?_)))
 ·have:=eC (fi:=cn (af 0)) (nT:=1) (cap:=[]) (tg:=dI 0) (fe:=db kx kx (fC (.str "a")) (af 0) (fC (.str "z"))) (ρ:=[some (.str z,false)]) z.cps.toList (λc=>.str ⟨#[c]⟩) (λc=>.bl (fR c)) (by simp[oC]) (by rw[gA];omega) λc _=>
   ⟨_,rfl,false,sd c _ (by simp[eZ])⟩
  exact a8 (b:=true) this rfl
 ·simp only[kz,mw,Option.map_some,List.all_map];congr 2;exact congrArg D.bl ha
theorem gB {d lo hi:Int}(h1:lo<=d)(h2:d<=hi):dn [.int d,.int lo,.int hi]=some (.bl true,false):=by
 refine ao rfl (aw ((ga (p:=true) (q:=true) (b1:=false) (by simp) λ_=>(ga (p:=true) (q:=true) (b1:=false) (v0 (p:=false) (b1:=false) (by simp)) λ_=>(gv (x:=.int lo) (y:=.int d) (z:=.int hi) (b1:=false) (b2:=false) (b3:=false) (b4:=false) (p:=true) (q:=true) rfl rfl rfl (by simp;omega) λ_=>by simp;omega).trans rfl).trans rfl).trans rfl))
theorem iK {d:Int}(h1:0<=d)(h2:d<=9999):fB [.int d]=some (.bl true,false):=ao rfl (aw (ak (ds:=[.int d,.int 0,.int 9999]) rfl (gB h1 h2)))
theorem se {d:Int}(h1:1<=d)(h2:d<=255):eO [.int d]=some (.bl true,false):=ao rfl (aw (ak (ds:=[.int d,.int 1,.int 255]) rfl (gB h1 h2)))
theorem sf {d:Int}(h1:0<=d)(h2:d<=9999):dH [.tup [.int d,.non]]=some (.bl true,false):=by
 refine ao rfl (am (bf (p:=false) (q:=false) (by simp) λ_=>bf (p:=false) (q:=false) (by simp) λ_=>cL (p:=true) (aH (b:=false) (ak (ds:=[.int d]) (by simp[qx]) (iK h1 h2)))) (aw ((rK (p:=true) (q:=true) (b1:=false) (by simp[yo,gm]) (by simp)).trans rfl)))
theorem oW {z:Str}(h:gb z=true):fD [.str z]=some (.bl true,false):=ao rfl (aw (ak (ds:=[.str z]) rfl (ka h)))
theorem tX {ps:List Str}(h1:1<=ps.length)(h8:ps.length<=8)(h:∀p∈ps,gb p=true):fQ [.tup (ps.map .str)]=some (.bl true,false):=by
 refine ao rfl (am (bf (p:=false) (q:=false) (by simp) λ_=>cL (p:=true) (aH (b:=false) ((gv (x:=.int 1) (y:=.int ps.length) (z:=.int 8) (b1:=false) (b2:=false) (b3:=false) (b4:=false) (p:=true) (q:=true) rfl (by simp) rfl (by simp;omega) λ_=>by simp;omega).trans rfl))) (aw (ak (ds:=[.lst (ps.map λ_=>.bl true)]) ?_ (jZ ps))));have:=eC (fi:=cn (af 0)) (nT:=1) (cap:=[]) (tg:=dI 0) (fe:=fA fD (ac (af 0) ai)) (ρ:=[some (.tup (ps.map .str),false)]) ps (λp=>.str p) (λ_=>.bl true) (by simp) (by omega) λp hp=>
  ⟨_,rfl,false,ak (ds:=[.str p]) (by simp[eZ]) (oW (h p hp))⟩
 exact a8 (b:=true) this rfl
theorem cq {p q:Str}{v:D}{b:Bool}(h:decide (p=q)=b):aT (f2 cI (af 0) (fC (.str q))) [some (.str p,false),some (v,false)]=some b:=aH (b:=false) (bq (x:=.str p) (y:=.str q) (b1:=false) (b2:=false) rfl rfl (by simp[←h]))
theorem c2 {p q r:Str}{v:D}(h:(decide (p=q) || decide (p=r))=false):cN (aT (f2 cI (af 0) (fC (.str q)))) (aT (f2 cI (af 0) (fC (.str r)))) [some (.str p,false),some (v,false)]=some false:=(bf (cq rfl) λ_=>cq rfl).trans (by rw[h])
theorem c3 {p q r t:Str}{v:D}(h:(decide (p=q) || (decide (p=r) || decide (p=t)))=false):cN (aT (f2 cI (af 0) (fC (.str q)))) (cN (aT (f2 cI (af 0) (fC (.str r)))) (aT (f2 cI (af 0) (fC (.str t))))) [some (.str p,false),some (v,false)]=some false:=(bf (cq rfl) λ_=>bf (cq rfl) λ_=>cq rfl).trans (by rw[h])
theorem NR {p q r:Str}{v:D}(h:(decide (p=q) || decide (p=r))=true):cN (aT (f2 cI (af 0) (fC (.str q)))) (aT (f2 cI (af 0) (fC (.str r)))) [some (.str p,false),some (v,false)]=some true:=(bf (cq rfl) λ_=>cq rfl).trans (by rw[h])
theorem NS {p q r t:Str}{v:D}(h:(decide (p=q) || (decide (p=r) || decide (p=t)))=true):cN (aT (f2 cI (af 0) (fC (.str q)))) (cN (aT (f2 cI (af 0) (fC (.str r)))) (aT (f2 cI (af 0) (fC (.str t))))) [some (.str p,false),some (v,false)]=some true:=(bf (cq rfl) λ_=>bf (cq rfl) λ_=>cq rfl).trans (by rw[h])
theorem vM {p:Str}{v:D}(h0:(decide (p=("day" : Str)) || decide (p=("since" : Str)))=false)(hp:(decide (p=("office" : Str)) || (decide (p=("by" : Str)) || decide (p=("person" : Str))))=true)(h:eW [v]=some (.bl true,false)):bg [.str p,v]=some (.bl true,false):=ao rfl (am (c2 h0) (bu (NS hp) (aw (ak (ds:=[v]) rfl h))))
theorem xE {v:D}(h:fQ [v]=some (.bl true,false)):bg [.str "pieces",v]=some (.bl true,false):=ao rfl (am (c2 (by decide +kernel)) (am (c3 (by decide +kernel)) (am (cq (by decide +kernel)) (am (cq (by decide +kernel)) (am (cq (by decide +kernel)) (am (cq (by decide +kernel)) (am (cq (by decide +kernel)) (am (cq (by decide +kernel)) (bu (cq (by decide +kernel)) (aw (ak (ds:=[v]) rfl h)))))))))))
theorem Ab {p:Str}{v:D}(hp:(decide (p=("day" : Str)) || decide (p=("since" : Str)))=true)(h:fB [v]=some (.bl true,false)):bg [.str p,v]=some (.bl true,false):=ao rfl (bu (NR hp) (aw (ak (ds:=[v]) rfl h)))
theorem Cr:bg [.str "whom",.non]=some (.bl true,false):=bC (by decide +kernel)
theorem tY {v:D}(h:eO [v]=some (.bl true,false)):bg [.str "matters",v]=some (.bl true,false):=ao rfl (am (c2 (by decide +kernel)) (am (c3 (by decide +kernel)) (am (cq (by decide +kernel)) (bu (cq (by decide +kernel)) (aw (ak (ds:=[v]) rfl h))))))
theorem tZ {v:D}(h:dH [v]=some (.bl true,false)):bg [.str "stretch",v]=some (.bl true,false):=ao rfl (am (c2 (by decide +kernel)) (am (c3 (by decide +kernel)) (am (cq (by decide +kernel)) (am (cq (by decide +kernel)) (bu (cq (by decide +kernel)) (aw (ak (ds:=[v]) rfl h)))))))
theorem ua {d:Int}(h1:0<=d)(h2:d<=9):bg [.str "further",.int d]=some (.bl true,false):=ao rfl (am (c2 (by decide +kernel)) (am (c3 (by decide +kernel)) (am (cq (by decide +kernel)) (am (cq (by decide +kernel)) (am (cq (by decide +kernel)) (bu (cq (by decide +kernel)) (aw (ak (ds:=[.int d,.int 0,.int 9]) rfl (gB h1 h2)))))))))
theorem Ij {d:Int}(h1:0<=d)(h2:d<=59):bg [.str "of",.int d]=some (.bl true,false):=ao rfl (am (c2 (by decide +kernel)) (am (c3 (by decide +kernel)) (am (cq (by decide +kernel)) (am (cq (by decide +kernel)) (am (cq (by decide +kernel)) (am (cq (by decide +kernel)) (am (cq (by decide +kernel)) (bu (cq (by decide +kernel)) (aw (ak (ds:=[.int d,.int 0,.int 59]) (by simp[eE]) (gB h1 h2)))))))))))
noncomputable def row (h:Int)(kind:Str)(rest:List D):D:=.tup [.int h,.tup (.str kind::rest)]
noncomputable def fH (z:Str):Bool:=Dw (.str z) [.str "by",.str "person",.str "whom"]
noncomputable def there:D->Bool
 |.non=>false
 |_=>true
@[simp] theorem K9:there .non=false:=rfl
@[simp] theorem KA (z:Str):there (.str z)=true:=rfl
@[simp] theorem KG (z:Int):there (.int z)=true:=rfl
@[simp] theorem KH (z:List D):there (.tup z)=true:=rfl
theorem si (d:D)(h:qP d=false):pH d .non=some (.bl (there d),false):=by
 cases d<;>simp[gm,there]at h ⊢
noncomputable def pick (l:List (Str×D)):List D:=(l.filter λx=>fH x.1 && there x.2).map (·.2)
structure Nm6 (zs:List Str):Prop where
 len:zs.length=6
 nd:zs.Nodup
 nm:∀z∈zs,gb z=true
noncomputable def off (zs:List Str)(k:Nat):Str:=zs.getD (4+k) ""
theorem Fp {zs:List Str}(g:Nm6 zs):¬off zs 0=off zs 1:=by
 obtain⟨l,nd,_⟩:=g;match zs,l with
 |[a,b,c,d,f,g],_=>
  intro h;have h:f=g:=h;simp[h]at nd
structure DeedG (zs:List Str)(k:Nat)(h:Int)(kind:Str)(rest:List D):Prop where
 parts:∃(parts:List Str)(ss:List Str),fw aO (.str kind)=some (.tup (parts.map .str),false)/\parts.length=rest.length/\(∀x∈parts.zip rest,bg [.str x.1,x.2]=some (.bl true,false))/\pick (parts.zip rest)=ss.map .str/\ss.length<=2/\∀s∈ss,s∈zs
 len:rest.length<=10
 flat:∀d∈rest,bd d=true/\qP d=false
 day:(kind=("root" : Str)/\(k=0∨k=1)/\∃r,rest=.str (off zs k)::r)∨(kind≠("root" : Str)/\(∃(day:Int)(r:List D),rest=.int day::r/\day<=h/\0<=day/\(kind=("chosen" : Str)->∃a b c s,r=[a,b,c,.int s]/\day<=s))/\mj aO (.str kind) (.str "day")=some (.int 0,false))
def qe (zs:List Str)(k:Nat)(r:D):Prop:=∃h kind rest,r=row h kind rest/\0<=h/\h<=9999/\DeedG zs k h kind rest
theorem gS (h:Int)(kind:Str)(rest:List D):bE [row h kind rest]=some (.str kind,false):=ao rfl (aw (by simp[row,yo,qx]))
theorem qf {h:Int}{k:Str}{rest:List D}{part:Str}{i:Nat}{d:D}(hi:mj aO (.str k) (.str part)=some (.int i,false))(hd:rest[i]? = some d):du [row h k rest,.str part]=some (d,false):=by
 refine ao rfl (aw ?_);refine bq (x:=.tup (.str k::rest)) (y:=.int (1+i)) (b1:=false) (b2:=false) (by simp[row,yo]) (bq (x:=.int 1) (y:=.int i) (b1:=false) (b2:=false) rfl (bq (x:=.str k) (y:=.str part) (b1:=false) (b2:=false) (ak (ds:=[row h k rest]) rfl (gS _ _ _)) rfl hi) (by simp)) ?_;have gi:i<rest.length:=(vV hd).1;have:nn (.str k::rest) (1+(i:Int))=some d:=by
  have:=js (xs:=(.str k:D)::rest) (j:=i+1) (by simp;omega);rw[show(1+(i:Int))=((i+1:Nat):Int) by omega,this];simp only[List.getElem_cons_succ];rw[vU gi]at hd;exact hd
 simp[this]
theorem Cs (k q:Str):cI (.str k) (.str q)=some (.bl (decide (k=q)),false):=by simp
noncomputable def Ac:D->D
 |.tup [_,.tup (.str _::.int d::_)]=>.int d
 |_=>.non
theorem Ct {k:Nat}{h:Int}{kind:Str}{rest:List D}(g:DeedG zs k h kind rest):jQ [row h kind rest]=some (Ac (row h kind rest),false):=by
 rcases g.day with⟨e,_,r,rfl⟩|⟨e,⟨day,r,rfl,_⟩,hi⟩
 ·exact ao rfl (bu (aH (b:=false) (bq (x:=.str kind) (y:=.str "root") (b1:=false) (b2:=false) (ak (ds:=[row h kind (.str (off zs k)::r)]) rfl (gS _ _ _)) rfl (by rw[Cs,decide_eq_true e]))) (aw rfl))
 ·exact ao rfl (am (aH (b:=false) (bq (x:=.str kind) (y:=.str "root") (b1:=false) (b2:=false) (ak (ds:=[row h kind (.int day::r)]) rfl (gS _ _ _)) rfl (by rw[Cs,decide_eq_false e]))) (aw (ak (ds:=[row h kind (.int day::r),.str "day"]) rfl (qf (i:=0) hi rfl))))
theorem Ad {k:Nat}{h:Int}{kind:Str}{rest:List D}(g:DeedG zs k h kind rest):kF [.tup (.str kind::rest)]=some (.bl true,false):=by
 obtain⟨parts,ss,hp,hl,ha,_⟩:=g.parts;have LI:(aO.lookup kind).isSome=true:=by
  simp only[fw]at hp;obtain⟨d,h1,_⟩:=oY hp;rw[h1];rfl
 have hsz:=g.len;have e0:f2 cb (af 0) (fC (.int 0)) [some (.tup (.str kind::rest),false)]=some (.str kind,false):=by simp[qx]
 have eg:f1 (fw aO) (f2 cb (af 0) (fC (.int 0))) [some (.tup (.str kind::rest),false)]=some (.tup (parts.map .str),false):=oV (x:=.str kind) (b:=false) e0 hp;refine ao rfl (am (bf (p:=false) (q:=false) (by simp) λ_=>bf (p:=false) (q:=false) (aH (b:=false) (by simp;omega)) λ_=>cL (p:=true) (aH (b:=false) (ak (ds:=[.str kind,.ty "str"]) (a8 e0 rfl) (by simp)))) (am (bf (p:=false) (q:=false) (aH (b:=false) (oV (x:=.str kind) (b:=false) e0 ?_)) λ_=>aH (b:=false) (bq (x:=.int ((rest.length+1:Nat):Int)) (y:=.int (1+(parts.length:Int))) (b1:=false) (b2:=false) (by simp) (bq (x:=.int 1) (y:=.int parts.length) (b1:=false) (b2:=false) rfl (ak (ds:=[.tup (parts.map .str)]) (a8 eg rfl) (by simp)) (by simp)) ?_)) (aw (ak (ds:=[.lst ((parts.zip rest).map λ_=>.bl true)]) ?_ (jZ _)))))
 ·simp only[jp,LI];rfl
 ·simp;omega
 ·have:=eC (fi:=xg (f1 (fw aO) (f2 cb (af 0) (fC (.int 0)))) (kA (af 0) (bR (fC (.int 1))) cC)) (nT:=2) (cap:=[]) (tg:=qT [0,1]) (fe:=fA bg (ac (af 0) (ac (af 1) ai))) (ρ:=[some (.tup (.str kind::rest),false)]) (parts.zip rest) (λx=>.tup [.str x.1,x.2]) (λ_=>.bl true)
   (by
    show(f1 (fw aO) _ _).bind _=_;rw[eg];simp[xD,rZ]) (by rw[List.length_zip];omega) λx hx=>by
    have Nv:=g.flat x.2 (List.of_mem_zip hx).2;exact⟨_,rfl,false,ak (ds:=[.str x.1,x.2]) (by simp[eZ]) (ha x hx)⟩
  exact a8 (b:=true) this rfl
theorem xF (r:D):bd (Ac r)=true:=by
 unfold Ac;split<;>rfl
theorem ub {k:Nat}{h:Int}{kind:Str}{rest:List D}(g:DeedG zs k h kind rest):ir [row h kind rest]=some (.bl true,false):=by
 have hd:=Ct g;have Jk:∀ {hh:FS}{r:Option Res},hh [some (row h kind rest,false),some (Ac (row h kind rest),false)]=r->a7 (bi 1 (fA jQ (ac (af 0) ai))) hh [some (row h kind rest,false),none]=r:=λe=>gM (d:=Ac (row h kind rest)) (b:=false) (ak (ds:=[row h kind rest]) rfl hd) (xF _) e;rcases g.day with⟨e,_,r,rfl⟩|⟨e,⟨day,r,rfl,JJ,LJ,wn⟩,hi⟩
 ·exact ao rfl (Jk (bu (aH (b:=false) (bq (x:=.non) (y:=.non) (b1:=false) (b2:=false) rfl rfl (by simp[gm]))) (aw rfl)))
 ·refine ao rfl (Jk (am (aH (b:=false) (bq (x:=.int day) (y:=.non) (b1:=false) (b2:=false) rfl rfl (by simp[gm]))) (am ((qc (p:=decide (kind=("chosen" : Str))) (q:=false) (aH (b:=false) (bq (x:=.str kind) (y:=.str "chosen") (b1:=false) (b2:=false) (ak (ds:=[row h kind (.int day::r)]) rfl (gS _ _ _)) rfl (Cs _ _))) λhc=>?_).trans (by rw[Bool.and_false])) (aw ?_))))
  ·have hc:=of_decide_eq_true hc;subst hc;obtain⟨a,b,c,s,rfl,hs⟩:=wn rfl;refine aH (b:=false) (bq (x:=.int s) (y:=.int day) (b1:=false) (b2:=false) (ak (ds:=[row h ("chosen" : Str) [.int day,a,b,c,.int s],.str "since"]) rfl (qf (i:=4) (bC (by decide +kernel)) rfl)) rfl ?_);simp;omega
  ·refine bq (x:=.int day) (y:=.int h) (b1:=false) (b2:=false) rfl (by simp[row,qx]) ?_;simp;omega
theorem vN {k:Nat}{r:D}(g:qe zs k r):jR [r]=some (.bl true,false):=by
 obtain⟨h,kind,rest,rfl,h0,h1,g⟩:=g;refine ao rfl (am (bf (p:=false) (q:=false) (by simp[row]) λ_=>by simp[row]) (aw ((ga (p:=true) (q:=true) (b1:=false) (ak (ds:=[.int h]) (by simp[row,qx]) (iK h0 h1)) λ_=>(ga (p:=true) (q:=true) (b1:=false) (ak (ds:=[.tup (.str kind::rest)]) (by simp[row,yo]) (Ad g)) λ_=>ak (ds:=[row h kind rest]) rfl (ub g)).trans rfl).trans rfl)))
noncomputable def kindOf:D->Str
 |.tup [_,.tup (.str k::_)]=>k
 |_=>("" : Str)
def mB (r:D):Bool:=decide (kindOf r=("root" : Str))
noncomputable def oZ:D->Str
 |.tup [_,.tup (_::.str o::_)]=>o
 |_=>("" : Str)
theorem Cu:mj aO (.str "root") (.str "office")=some (.int 0,false):=bC (by decide +kernel)
theorem mC {k:Nat}{r:D}(g:qe zs k r)(h:mB r=true):du [r,.str "office"]=some (.str (oZ r),false)/\oZ r=off zs k/\(k=0∨k=1):=by
 obtain⟨a,kind,rest,rfl,_,_,g⟩:=g;have h:kind=("root" : Str):=of_decide_eq_true h;subst h;rcases g.day with⟨_,hk,r,rfl⟩|⟨e,_⟩
 ·exact⟨qf (i:=0) Cu rfl,rfl,hk⟩
 ·exact absurd rfl e
theorem mD {k:Nat}{r:D}(g:qe zs k r):bE [r]=some (.str (kindOf r),false):=by
 obtain⟨a,kind,rest,rfl,_⟩:=g;exact gS _ _ _
theorem Ae (k:Str)(ws:List Str):Dw (.str k) (ws.map .str)=decide (k∈ws):=by
 induction ws with
 |nil=>simp[Dw]
 |cons w ws ih=>
  have:Dw (.str k) ((w::ws).map .str)=(cU (.str w) (.str k) || Dw (.str k) (ws.map .str)):=rfl;rw[this,ih,qJ];by_cases e:w=k
  ·simp[e]
  ·have e':¬k=w:=λz=>e z.symm;simp[e,e']
theorem xG (ws:List Str):(ws.map D.str).all fm=true:=by
 induction ws with
 |nil=>rfl
 |cons w ws ih=>simp[fm]
theorem mE (zs:List Str):fO (zs.map .str)=some zs:=by
 induction zs with
 |nil=>rfl
 |cons z zs ih=>simp[ih]
theorem Cv (k:Str)(ws:List Str):sO (.str k) (.lst (ws.map .str))=some (.bl (decide (k∈ws)),false):=by
 simp only[sO,ib,vJ,Ae];rw[if_pos ⟨rfl,xG ws⟩]
def pb (zs:List Str)(rows:List D):Prop:=(rows.length<=30/\Nm6 zs)/\∀(j:Nat) r,rows[j]? = some r->qe zs j r
theorem pb.mem {rows:List D}(g:pb zs rows){r:D}(h:r∈rows):∃k,qe zs k r:=by
 obtain⟨j,hj⟩:=List.mem_iff_getElem?.mp h;exact⟨j,g.2 j r hj⟩
theorem xH {rows:List D}(g:pb zs rows){i:Nat}{r:D}(hr:rows[i]? = some r):dU [.tup (rows.take i),r]=some (.bl false,false):=by
 have hi:=(vV hr).1;have gr:=g.2 i r hr;have JP:=g.1.1;refine ao rfl (aw ((ga (p:=mB r) (q:=false) (b1:=false) (bq (x:=.str (kindOf r)) (y:=.str "root") (b1:=false) (b2:=false) (ak (ds:=[r]) rfl (mD gr)) rfl (Cs _ _)) λJl=>?_).trans (by rw[Bool.and_false])));obtain⟨ho,Pw,hk⟩:=mC gr Jl;have AL:∀x∈rows.take i,∃j,j<i/\qe zs j x:=λx hx=>by
  obtain⟨j,hj⟩:=List.mem_iff_getElem?.mp hx;rw[List.getElem?_take]at hj;split at hj
  ·rename_i gi;exact⟨j,gi,g.2 j x hj⟩
  ·cases hj
 have hc:=rL (fi:=cn (af 0)) (nT:=1) (cap:=[]) (tg:=dI 0) (c:=aT (f2 cI (fA bE (ac (af 0) ai)) (fC (.str "root")))) (fe:=fA du (ac (af 0) (ac (fC (.str "office")) ai))) (ρ:=[some (.tup (rows.take i),false)]) (rows.take i) (λx=>x) mB (λx=>.str (oZ x)) (by simp) (by simp;omega) λx hx=>by
  obtain⟨j,hj,gx⟩:=AL x hx;exact⟨_,rfl,aH (b:=false) (bq (x:=.str (kindOf x)) (y:=.str "root") (b1:=false) (b2:=false) (ak (ds:=[x]) (by simp[eZ]) (mD gx)) rfl (Cs _ _)),λhx=>⟨false,ak (ds:=[x,.str "office"]) (by simp[eZ]) (mC gx hx).1⟩⟩
 have Px:fE [.tup (rows.take i)]=some (.lst ((((rows.take i).filter mB).map oZ).map .str),true):=by
  rw[uP];exact ao rfl (aw hc)
 refine bq (x:=.str (oZ r)) (y:=.lst ((((rows.take i).filter mB).map oZ).map .str)) (b1:=false) (b2:=true) (ak (ds:=[r,.str "office"]) rfl ho) (ak (ds:=[.tup (rows.take i)]) rfl Px) ?_;rw[Cv];congr 3;refine decide_eq_false λyi=>?_;obtain⟨x,hx,e⟩:=vO yi;obtain⟨hx,Py⟩:=List.mem_filter.mp hx;obtain⟨j,hj,gx⟩:=AL x hx;obtain⟨_,Pz,P0⟩:=mC gx Py;rw[Pw,Pz]at e;have:=Fp g.1.2;rcases hk with rfl|rfl<;>rcases P0 with rfl|rfl
 ·omega
 ·omega
 ·exact this e
 ·omega
theorem sj:∀(ss ts:List Str){x:Str},x∈ss.foldl gK ts->x∈ts∨x∈ss
 |[],ts,x,h=>.inl h
 |y::ss,ts,x,h=>by
  rw[List.foldl_cons]at h;rcases sj ss (gK ts y) h with h|h
  ·rcases zw.mp h with h|h
   ·exact .inl h
   ·exact .inr (h ▸ mX)
  ·exact .inr (mZ _ h)
theorem mF:∀(ss ts:List Str),ts.Nodup->(ss.foldl gK ts).Nodup
 |[],ts,h=>h
 |y::ss,ts,h=>mF ss (gK ts y) (tG h y)
theorem sk {ss:List Str}{x:Str}(h:x∈fM ss):x∈ss:=by
 rcases sj ss [] h with h|h
 ·cases h
 ·exact h
theorem sn:∀(l m:List Str),l.Nodup->(∀x∈l,x∈m)->l.length<=m.length
 |[],m,_,_=>uM _
 |x::l,m,h,s=>by
  rw[List.nodup_cons]at h;have hx:=s x mX;have:=sn l (m.erase x) h.2 λy hy=>(List.mem_erase_of_ne (a:=y) (b:=x) (λe=>h.1 (by rw[←e];exact hy))).mpr (s y (mZ _ hy));rw[List.length_erase_of_mem hx]at this;have:0<m.length:=List.length_pos_of_mem hx;rw[vE];omega
theorem so {h:Int}{kind:Str}{rest:List D}{parts:List Str}(hp:fw aO (.str kind)=some (.tup (parts.map .str),false)):cS [row h kind rest]=some (.lst ((parts.zip rest).map λx=>.tup [.str x.1,x.2]),true):=by
 refine ao rfl (aw ?_);have e1:f1 (fw aO) (fA bE (ac (af 0) ai)) [some (row h kind rest,false)]=some (.tup (parts.map .str),false):=oV (x:=.str kind) (b:=false) (ak (ds:=[row h kind rest]) rfl (gS h kind rest)) hp;have e2:kA (f2 cb (af 0) (fC (.int 1))) (bR (fC (.int 1))) cC [some (row h kind rest,false)]=some (.tup rest,false):=by simp[row,yo,xD]
 show(((f1 (fw aO) (fA bE (ac (af 0) ai)) [some (row h kind rest,false)]).bind λx=>(kA (f2 cb (af 0) (fC (.int 1))) (bR (fC (.int 1))) cC [some (row h kind rest,false)]).bind λy=>(ib x.1).bind λxs=>(ib y.1).map λys=>fu xs ys).map λds=>(D.lst ds,true))=_;rw[e1,e2];simp[rZ]
theorem xI {k:Nat}{r:D}(g:qe zs k r):∃ss:List Str,eG [r]=some (.lst (ss.map .str),true)/\ss.length<=2/\∀s∈ss,s∈zs:=by
 obtain⟨h,kind,rest,rfl,_,_,g⟩:=g;obtain⟨parts,ss,hp,hl,_,hk,j0,LK⟩:=g.parts;have AM:=rL (fi:=cn (fA cS (ac (af 0) ai))) (nT:=2) (cap:=[]) (tg:=qT [0,1]) (c:=iW (aT (f2 sO (af 0) (fC cR))) (aT (f2 pH (af 1) (fC .non)))) (fe:=af 1)
  (ρ:=[some (row h kind rest,false),none]) (parts.zip rest) (λx=>.tup [.str x.1,x.2]) (λx=>fH x.1 && there x.2) (·.2) (by
   have e1:fA cS (ac (af 0) ai) [some (row h kind rest,false),none]=_:=ak (ds:=[row h kind rest]) rfl (so hp);show Option.bind (fA cS (ac (af 0) ai) [some (row h kind rest,false),none]) _=_;rw[e1];rfl) (by
   have:=g.len;rw[List.length_zip];omega) λx hx=>by
   have Nv:=(g.flat x.2 (List.of_mem_zip hx).2);refine⟨_,rfl,qc (aH (b:=false) ?_) λ_=>aH (b:=false) ?_,λ_=>⟨false,?_⟩⟩
   ·refine bq (x:=.str x.1) (y:=cR) (b1:=false) (b2:=false) (by simp[eZ]) rfl ?_;simp[cR,fH,fm]
   ·exact bq (x:=x.2) (y:=.non) (b1:=false) (b2:=false) (by simp[eZ]) rfl (si _ Nv.2)
   ·simp[eZ]
 refine⟨kR (fM ss),ao rfl (cK (ds:=ss.map .str) ?_ (aW ss) (aw ?_)),?_,?_⟩
 ·exact hk ▸ AM
 ·have:ss.length<64:=by omega
  simp[this]
 ·rw[(fz _).length_eq];exact vR (ma ss) j0
 ·intro s hs;exact LK s (sk ((fz _).mem_iff.mp hs))
theorem xJ {rows:List D}(g:∀r∈rows,∃k,qe zs k r)(hl:rows.length<=60)(P1:zs.length=6):∃n:Nat,fF [.tup rows]=some (.int n,false)/\n<=6:=by
 obtain⟨ρ',e,ys,v,rfl,hz,h6⟩:=jI (tg:=dI 2) (g:=hJ) (λi ρ=>∃(ys:List Str)(v:OB),ρ=[some (.tup rows,false),some (.lst (ys.map .str),true),v]/\ys.length<=2*i/\∀z∈ys,z∈zs) rows
  [some (.tup rows,false),some (.lst [],true),none] ⟨[],none,rfl,by simp,by simp⟩ (by
   rintro i d ρ hd ⟨ys,v,rfl,hz,h6⟩;have hi:=(vV hd).1;obtain⟨k,gd⟩:=g d (List.mem_of_getElem? hd);obtain⟨ss,hp,j0,LK⟩:=xI gd;have hsz:(ys.map D.str).length+(ss.map D.str).length<=sizeLine:=cu (by simp;omega);refine⟨_,[some (.tup rows,false),some (.lst ((ys++ss).map .str),true),some (d,false)],rfl,.inl ?_,ys++ss,some (d,false),rfl,by simp;omega,?_⟩
   ·have hv:fA eG (ac (af 2) ai) [some (.tup rows,false),some (.lst (ys.map .str),true),some (d,false)]=some (.lst (ss.map .str),true):=ak (ds:=[d]) rfl hp;show qW 1 (fA eG (ac (af 2) ai)) [some (.tup rows,false),some (.lst (ys.map .str),true),some (d,false)]=_;simp only[qW,List.getElem?_cons_succ,List.getElem?_cons_zero,hv,vJ];rw[if_pos ⟨trivial,aW ss,hsz⟩];simp
   ·intro z hz';rcases List.mem_append.mp hz' with h|h
    ·exact h6 z h
    ·exact LK z h)
 refine⟨(fM ys).length,ao rfl (cK (ds:=[]) (by simp[sizeLine]) rfl (dM (jK (ds:=rows) (by simp[j7]) e) (aw (oV (x:=.lst (ys.map .str)) (b:=false) rfl ?_)))),?_⟩
 ·have:ys.length<4000:=by omega
  simp only[jG,mE,vJ,if_pos this]
 ·exact vR (sn (fM ys) zs (mF ys [] List.nodup_nil) λz hz=>h6 z (sk hz)) (Nat.le_of_eq P1)
theorem Af {rows:List D}{i:Nat}{r:D}(h:rows[i]? = some r):nn rows (i:Int)=some r:=by
 have gi:i<rows.length:=(vV h).1;rw[js gi,←h,vU gi]
theorem uc {rows:List D}(g:pb zs rows){i:Nat}(hi:i<rows.length):gP [.tup rows,.int i]=some (.bl false,false):=by
 obtain⟨r,hr⟩:∃r,rows[i]? = some r:=⟨_,vU hi⟩;have ha:=Af hr;have JP:=g.1.1;have Nw:∀ρ:DL.Env,ρ[0]? = some (some (.tup rows,false))->ρ[1]? = some (some (.int i,false))->f2 cb (af 0) (af 1) ρ=some (r,false):=λρ h0 h1=>by simp[h0,h1,ha]
 obtain⟨n,hn,Q2⟩:=xJ (rows:=rows.take (i+1)) (λx hx=>g.mem (List.mem_of_mem_take hx)) (by simp;omega) g.1.2.len;have IC:=g9 rows (i+1);rw[Int.natCast_add]at IC;refine ao rfl (am (bf (p:=false) (q:=false) (aH (b:=false) (by simp[eE];omega)) λ_=>cL (p:=true) (aH (b:=false) (ak (ds:=[r]) (a8 (Nw _ rfl rfl) rfl) (vN (g.2 i r hr))))) (aw ((rK (p:=false) (q:=false) (b1:=false) (ak (ds:=[.tup (rows.take i),r]) (a8 (d:=.tup (rows.take i)) (b:=false) (by simp[g9]) (a8 (Nw _ rfl rfl) rfl)) (xH g hr)) λ_=>bq (x:=.int n) (y:=.int 20) (b1:=false) (b2:=false) (ak (ds:=[.tup (rows.take (i+1))]) (a8 (d:=.tup (rows.take (i+1))) (b:=false) (by simp;exact IC) rfl) hn) rfl (by simp;omega)).trans rfl)))
theorem le {rows:List D}(g:pb zs rows)(hf:aS rows=true)(d:D)(hd:d=.lst rows∨d=.tup rows):cE [d]=some (.tup rows,false):=by
 have hl:=g.1.1;obtain⟨ρ',e,v,rfl⟩:=mn (tg:=dI 2) (g:=i0) rows.length (λi ρ=>∃v:OB,ρ=[some (d,false),some (.tup rows,false),v])
  [some (d,false),some (.tup rows,false),none] ⟨none,rfl⟩ (by
   rintro i ρ hi ⟨v,rfl⟩;exact⟨_,_,rfl,.inl (tT (aH (b:=false) (ak (ds:=[.tup rows,.int i]) rfl (uc g hi))) rfl),some (.int i,false),rfl⟩)
 refine ao rfl (am (cL (p:=true) (aH (b:=false) (ak (ds:=[d,.tup [.ty "list",.ty "tuple"]]) (a8 rfl (a8 (d:=.tup [.ty "list",.ty "tuple"]) (b:=false) (by simp[sizeLine]) rfl)) ?_))) (gM (d:=.tup rows) (b:=false) (ak (ds:=[d]) rfl ?_) (by simp[hf]) (dM (ik (dQ (j:=rows.length) (b:=false) (by simp) (by omega)) e) (qa rfl))))
 ·rcases hd with rfl|rfl<;>simp
 ·rcases hd with rfl|rfl<;>simp
end Lw
namespace Lw
open PySem PySem.Spec DL L2
theorem mG:(" " : Str)=⟨#[32]⟩:=by decide +kernel
theorem D7:("\n" : PySem.Str)=⟨#[10]⟩:=by decide +kernel
noncomputable def jw (ws:List Str):Str:=Txt.join ⟨#[32]⟩ ws
theorem xK (a b c:Str):a++b++c=a++(b++c):=by
 show(⟨(a.cps++b.cps)++c.cps⟩:Str)=⟨a.cps++(b.cps++c.cps)⟩;rw[Array.append_assoc]
theorem lf (s:Str):∀(a b:List Str),a≠[]->b≠[]->Str.join s (a++b)=Str.join s a++s++Str.join s b
 |[],_,h,_=>absurd rfl h
 |[x],[],_,h=>absurd rfl h
 |[x],y::r,_,_=>rfl
 |x::y::a,b,_,hb=>by
  show x++s++Str.join s ((y::a)++b)=(x++s++Str.join s (y::a))++s++Str.join s b;rw[lf s (y::a) b (by simp) hb];simp only[xK]
theorem pc (s:Str):∀wss:List (List Str),(∀x∈wss,x≠[])->Str.join s (wss.map (Str.join s))=Str.join s wss.flatten
 |[],_=>rfl
 |[x],_=>by
  rw[List.flatten_cons,List.flatten_nil,uQ];rfl
 |x::y::r,h=>by
  have ih:=pc s (y::r) (λz hz=>h z (mZ _ hz));show Str.join s x++s++Str.join s ((y::r).map (Str.join s))=_;have hy:=h y (by simp);have e:(x::y::r).flatten=x++(y::r).flatten:=List.flatten_cons;rw[ih,e,lf s x _ (h x (by simp)) (by simp[hy])]
theorem wa {wss:List (List Str)}(h:∀x∈wss,x≠[]):jw (wss.map jw)=jw wss.flatten:=by
 have:jw=Str.join ⟨#[32]⟩:=funext λws=>fG _ ws;rw[this];exact pc _ wss h
def Wd (w:Str):Prop:=32∉w.cps.toList/\10∉w.cps.toList/\w.length<=20
structure Pt where
 p:Str
 v:D
 ch:List (List Str)
def Pt.ws (t:Pt):List Str:=t.ch.flatten
noncomputable def Pt.tail (t:Pt):Bool:=decide (t.p=("pieces" : Str)) || decide (t.p=("changes" : Str))
structure PW (t:Pt):Prop where
 part:bg [.str t.p,t.v]=some (.bl true,false)
 flat:bd t.v=true/\qP t.v=false
 words:cT [.str t.p,t.v]=some (.lst ((t.ch.map jw).map .str),true)
 ne:∀x∈t.ch,x≠[]
 few:t.ch.length<=8/\∀x∈t.ch,x.length<=2/\∀w∈x,Wd w
 value:∃b,dW [.str t.p,.lst (t.ws.map .str)]=some (t.v,b)
 count:∀rest:List Str,(t.tail=true->rest=[])->dh [.str t.p,.lst ((t.ws++rest).map .str)]=some (.int t.ws.length,false)
noncomputable def gT (L:List Pt):List Str:=(L.map Pt.ws).flatten
def ge:List Pt->Prop
 |[]=>True
 |[_]=>True
 |t::u::r=>t.tail=false/\ge (u::r)
theorem ge.tl {t:Pt}{r:List Pt}(h:ge (t::r)):ge r:=by
 cases r with
 |nil=>trivial
 |cons u r=>exact h.2
theorem ge.hd {t:Pt}{r:List Pt}(h:ge (t::r)):t.tail=true->gT r=[]:=by
 intro ht;cases r with
 |nil=>rfl
 |cons u r=>rw[h.1]at ht;cases ht
theorem Fq {ws:List Str}(h2:ws.length<=2)(h:∀w∈ws,Wd w):(jw ws).length<=50:=by
 refine vR (jL _ ws) ?_;match ws,h2 with
 |[],_=>simp
 |[a],_=>have:=(h a (by simp)).2.2;simp[cw];omega
 |[a,b],_=>have:=(h a (by simp)).2.2;have:=(h b (by simp)).2.2;simp[cw];omega
theorem mH {l:List Str}{k:Nat}(h:∀x∈l,x.length<=k):(l.map (·.length)).sum<=l.length*k:=by
 induction l with
 |nil=>simp
 |cons a l ih=>
  have:=h a (by simp);have:=ih λx hx=>h x (mZ _ hx);rw[uZ,List.sum_cons,vE,Nat.add_mul];omega
theorem pd (zs:List Str):fO (zs.map .str)=some zs:=mE zs
theorem qg {c:Nat}{us:List Str}{k:Nat}(hk:k<=10000)(h:∀u∈us,u.length<=k)(hl:us.length<=1000):dg (.str ⟨#[c]⟩) (.lst (us.map .str))=some (.str (Txt.join ⟨#[c]⟩ us),false):=by
 have:=mH h;have:us.length*k<=1000*10000:=Nat.mul_le_mul hl hk;have:(us.map (·.length)).sum+us.length*(⟨#[c]⟩:Str).length<=16777216:=by rw[cw];omega
 simp only[dg,pd,vJ,if_pos this]
def mI (h:Int)(kind:Str)(L:List Pt):List Str:=(Str.ofString (toString h))::kind::gT L
noncomputable def Ag (L:List Pt):List (List Str):=(L.map Pt.ch).flatten
theorem mJ (t:Pt)(L:List Pt):Ag (t::L)=t.ch++Ag L:=by simp[Ag]
theorem iA (t:Pt)(L:List Pt):gT (t::L)=t.ws++gT L:=by simp[gT]
theorem D8:∀L:List Pt,(Ag L).flatten=gT L
 |[]=>rfl
 |t::L=>by rw[mJ,iA,List.flatten_append,D8 L];rfl
theorem pe (r0:OB):∀(L:List Pt)(us:List Str)(x y:OB),(∀t∈L,PW t)->us.length+8*L.length<=1000 ->
  ∃x' y',dO (qT [2,3]) ju (L.map λt=>.tup [.str t.p,t.v]) [r0,some (.lst (us.map .str),true),x,y]=some (.nx [r0,some (.lst ((us++(Ag L).map jw).map .str),true),x',y'])
 |[],us,x,y,_,_=>⟨x,y,by simp[dO,Ag]⟩
 |t::L,us,x,y,h,hl=>by
  have ht:=h t (by simp);rw[vE]at hl;have h8:=ht.few.1;obtain⟨x',y',e⟩:=pe r0 L (us++t.ch.map jw) (some (.str t.p,false)) (some (t.v,false)) (λu hu=>h u (mZ _ hu)) (by simp;omega);refine⟨x',y',?_⟩;have hw:fA cT (ac (af 2) (ac (af 3) ai)) [r0,some (.lst (us.map .str),true),some (.str t.p,false),some (t.v,false)]=some (.lst ((t.ch.map jw).map .str),true):=ak (ds:=[.str t.p,t.v]) rfl ht.words;have hb:ju [r0,some (.lst (us.map .str),true),some (.str t.p,false),some (t.v,false)]=some (.nx [r0,some (.lst ((us++t.ch.map jw).map .str),true),some (.str t.p,false),some (t.v,false)]):=by
   show qW 1 (fA cT (ac (af 2) (ac (af 3) ai))) _=_;have hsz:(us.map D.str).length+((t.ch.map jw).map D.str).length<=sizeLine:=cu (by simp;omega);simp only[qW,List.getElem?_cons_succ,List.getElem?_cons_zero,hw,vJ];rw[if_pos ⟨trivial,aW _,hsz⟩];simp
  have sJ:qT [2,3] (.tup [.str t.p,t.v]) [r0,some (.lst (us.map .str),true),x,y]=some [r0,some (.lst (us.map .str),true),some (.str t.p,false),some (t.v,false)]:=by
   have:=ht.flat;simp[dr,this.1]
  rw[uZ,dO,sJ,vJ,hb];dsimp only;rw[e,mJ];simp
theorem kL {n:Nat}(h:n<=9999):n.log2<1920:=by
 by_cases h0:n=0
 ·subst h0;decide
 ·exact(Nat.log2_lt h0).mpr (Nat.lt_of_le_of_lt h (by decide +kernel))
theorem Cw {h:Int}{kind:Str}{L:List Pt}(hL:∀t∈L,PW t)(hl:L.length<=8)(h0:0<=h)(h1:h<=9999)(hk:kind.length<=8)(ht:(Str.ofString (toString h)).length<=20)(hp:fw aO (.str kind)=some (.tup ((L.map (·.p)).map .str),false)):iJ [row h kind (L.map (·.v))]=some (.str (jw (mI h kind L)),false):=by
 obtain⟨x,y,e⟩:=pe (some (row h kind (L.map (·.v)),false)) L [(Str.ofString (toString h)),kind] none none hL (by simp;omega);have hz:((L.map (·.p)).zip (L.map (·.v))).map (λx=>D.tup [.str x.1,x.2])=L.map λt=>.tup [.str t.p,t.v]:=by
  rw[List.zip_map',uP];rfl
 refine ao rfl (cK (ds:=[.str (toString h),.str kind]) ?_ (by simp) (dM (jK (ds:=L.map λt=>.tup [.str t.p,t.v]) ?_ e) (aw ?_)))
 ·have e1:fA bE (ac (af 0) ai) [some (row h kind (L.map (·.v)),false),none,none,none]=some (.str kind,false):=ak (ds:=[row h kind (L.map (·.v))]) rfl (gS _ _ _);have e2:fA gu (ac (f2 cb (af 0) (fC (.int 0))) ai) [some (row h kind (L.map (·.v)),false),none,none,none]=some (.str (toString h),false):=ak (ds:=[.int h]) (by simp[row,qx]) (by
   have:=kL (n:=h.natAbs) (by omega);simp[this])
  exact ak (ds:=[.str (toString h),.str kind]) (a8 e2 (a8 e1 rfl)) (by simp[sizeLine])
 ·have e1:=ak (fa:=ac (af 0) ai) (ρ:=j7 [some (row h kind (L.map (·.v)),false),some (.lst [.str (toString h),.str kind],true),none,none]) (ds:=[row h kind (L.map (·.v))]) rfl (so (h:=h) (rest:=L.map (·.v)) hp);show Option.bind (fA cS (ac (af 0) ai) (j7 [some (row h kind (L.map (·.v)),false),some (.lst [.str (toString h),.str kind],true),none,none])) _=_;rw[e1,hz];rfl
 ·have hj:jw (mI h kind L)=Txt.join ⟨#[32]⟩ ([(Str.ofString (toString h)),kind]++(Ag L).map jw):=by
   have:=wa (wss:=[[(Str.ofString (toString h))],[kind]]++Ag L) (by
    intro x hx;rcases List.mem_append.mp hx with hx|hx
    ·simp at hx;rcases hx with rfl|rfl<;>simp
    ·obtain⟨l,hl,hx⟩:=List.mem_flatten.mp hx;obtain⟨t,ht,rfl⟩:=vO hl;exact(hL t ht).ne x hx)
   rw[List.flatten_append,D8,uX]at this;exact this.symm
  rw[hj];refine bq (x:=.str " ") (y:=.lst (([(Str.ofString (toString h)),kind]++(Ag L).map jw).map .str)) (b1:=false) (b2:=false) rfl rfl ?_;rw[mG];refine qg (k:=50) (by omega) ?_ ?_
  ·intro u hu;rcases List.mem_append.mp hu with hu|hu
   ·rcases vP hu with rfl|hu
    ·omega
    ·rcases vP hu with rfl|hu
     ·omega
     ·cases hu
   ·obtain⟨x,hx,rfl⟩:=vO hu;obtain⟨l,hl,hx⟩:=List.mem_flatten.mp hx;obtain⟨t,ht,rfl⟩:=vO hl;have:=(hL t ht).few.2 x hx;exact Fq this.1 this.2
  ·have:∀M:List Pt,(∀t∈M,PW t)->(Ag M).length<=8*M.length:=by
    intro M;induction M with
    |nil=>intro _;simp[Ag]
    |cons t M ih=>
     intro hM;have:=ih λu hu=>hM u (mZ _ hu);have:=(hM t (by simp)).few.1;rw[mJ,vA,vE];omega
   have:=this L hL;simp;omega
theorem Ah {l:List D}{n:Nat}(h:n<=l.length):iP l (some (n:Int)) none=l.drop n:=by
 unfold iP;rw[jM (v:=(n:Int)) (by omega)];have:HT.cM l.length l.length none=l.length:=rfl;rw[this,Int.toNat_natCast,Nat.min_eq_left h];rw[List.take_of_length_le (by simp)]
theorem pf (w0:D):∀(L:List Pt)(iS:List D)(x y:OB),(∀t∈L,PW t)->ge L->iS.length+L.length<=1000->(gT L).length<=1000 ->
  ∃x' y',dO (dI 3) jt (L.map λt=>.str t.p) [some (w0,false),some (.lst iS,true),some (.lst ((gT L).map .str),true),x,y]=some (.nx [some (w0,false),some (.lst (iS++L.map (·.v)),true),some (.lst [],true),x',y'])
 |[],iS,x,y,_,_,_,_=>⟨x,y,by simp[dO,gT]⟩
 |t::L,iS,x,y,h,G2,hl,hw=>by
  have ht:=h t (by simp);rw[vE]at hl;rw[iA,vA]at hw;obtain⟨x',y',e⟩:=pf w0 L (iS++[t.v]) (some (.str t.p,false)) (some (.int t.ws.length,false)) (λu hu=>h u (mZ _ hu)) G2.tl (by simp;omega) (by omega);refine⟨x',y',?_⟩;have hc:=ht.count (gT L) G2.hd;obtain⟨b,hv⟩:=ht.value;have hb:jt [some (w0,false),some (.lst iS,true),some (.lst ((t.ws++gT L).map .str),true),some (.str t.p,false),y]=some (.nx [some (w0,false),some (.lst (iS++[t.v]),true),some (.lst ((gT L).map .str),true),some (.str t.p,false),some (.int t.ws.length,false)]):=by
   refine gM (d:=.int t.ws.length) (b:=false) (ak (ds:=[.str t.p,.lst ((t.ws++gT L).map .str)]) rfl hc) rfl (am (aH (b:=false) ?_) (Ii (ds:=iS) (d:=t.v) (b:=b) rfl (ak (ds:=[.str t.p,.lst (t.ws.map .str)]) ?_ hv) ht.flat.1 (dR (by omega)) (Co (ds:=(gT L).map .str) ?_ (aW _))))
   ·refine bq (x:=.int t.ws.length) (y:=.int (t.ws++gT L).length) (b1:=false) (b2:=false) rfl (by simp) ?_;simp;omega
   ·refine a8 (d:=.str t.p) (b:=false) rfl (a8 (d:=.lst (t.ws.map .str)) (b:=true) ?_ rfl);simp[g9]
   ·have:=Ah (l:=(t.ws++gT L).map D.str) (n:=t.ws.length) (by simp);simp at this;simp[this]
  have sJ:dI 3 (.str t.p) [some (w0,false),some (.lst iS,true),some (.lst ((t.ws++gT L).map .str),true),x,y]=some [some (w0,false),some (.lst iS,true),some (.lst ((t.ws++gT L).map .str),true),some (.str t.p,false),y]:=by
   simp
  rw[uZ,dO,iA,sJ,vJ,hb];dsimp only;rw[e];simp
theorem Cy {kind:Str}{L:List Pt}(hL:∀t∈L,PW t)(G2:ge L)(hl:L.length<=8)(hw:(gT L).length<=1000)(hp:fw aO (.str kind)=some (.tup ((L.map (·.p)).map .str),false)):kH [.lst ((kind::gT L).map .str)]=some (.tup (.str kind::L.map (·.v)),false):=by
 obtain⟨x,y,e⟩:=pf (.lst ((kind::gT L).map .str)) L [.str kind] none none hL G2 (by simp;omega) hw;have hf:aS (D.str kind::L.map (·.v))=true:=bP (by
  intro d hd;rcases vP hd with rfl|hd
  ·rfl
  ·obtain⟨t,ht,rfl⟩:=vO hd;exact(hL t ht).flat.1)
 refine ao rfl (cK (ds:=[.str kind]) ?_ (by simp) (cK (ds:=(gT L).map .str) ?_ (aW _) (dM (jK (ds:=L.map λt=>.str t.p) ?_ e) (aw ?_))))
 ·have:=g9 (.str kind::(gT L).map D.str) 1;simp at this;simp[this]
 ·simp[xD]
 ·have e1:f1 (fw aO) (f2 cb (af 0) (fC (.int 0))) (j7 [some (.lst ((kind::gT L).map .str),false),some (.lst [.str kind],true),some (.lst ((gT L).map .str),true),none,none])=some (.tup ((L.map (·.p)).map .str),false):=oV (x:=.str kind) (b:=false) (by simp[j7,qx]) hp;show Option.bind (f1 (fw aO) (f2 cb (af 0) (fC (.int 0))) (j7 [some (.lst ((kind::gT L).map .str),false),some (.lst [.str kind],true),some (.lst ((gT L).map .str),true),none,none])) _=_;rw[e1];simp
 ·simp[hf]
structure RL (zs:List Str)(k:Nat)(h:Int)(kind:Str)(L:List Pt):Prop where
 pw:∀t∈L,PW t
 last:ge L
 len:L.length<=8
 parts:fw aO (.str kind)=some (.tup ((L.map (·.p)).map .str),false)
 good:DeedG zs k h kind (L.map (·.v))
 h0:0<=h
 h1:h<=9999
 kw:Wd kind
 kl:kind.length<=8
theorem D9 {L:List Pt}(hL:∀t∈L,PW t):∀w∈gT L,Wd w:=by
 intro w hw;obtain⟨l,hl,hw⟩:=List.mem_flatten.mp hw;obtain⟨t,ht,rfl⟩:=vO hl;obtain⟨x,hx,hw⟩:=List.mem_flatten.mp hw;exact((hL t ht).few.2 x hx).2 w hw
theorem qh:∀ {L:List Pt},(∀t∈L,PW t)->(gT L).length<=16*L.length
 |[],_=>by simp[gT]
 |t::L,h=>by
  have:=qh λu hu=>h u (mZ _ hu);have ht:=h t (by simp);have h8:=ht.few.1;have:∀l:List (List Str),(∀x∈l,x.length<=2)->l.flatten.length<=2*l.length:=by
   intro l;induction l with
   |nil=>intro _;simp
   |cons a l ih=>
    intro hl;have:=ih λx hx=>hl x (mZ _ hx);have:=hl a (by simp);rw[List.flatten_cons,vA,vE];omega
  have:=this t.ch λx hx=>(ht.few.2 x hx).1;rw[iA,vA,vE];unfold Pt.ws;omega
noncomputable def ph (l:List Nat):Bool:=(decide (1<=l.length) && decide (l.length<=4)) && (l.all (λc=>decide (48<=c) && decide (c<=57)) && (decide (l=[48]) || !decide (l.getD 0 0=48)))
theorem Cz:(List.range 10000).all (λm=>ph ((Nat.toDigits 10 m).map Char.toNat))=true:=by decide +kernel
noncomputable def nS (n:Int):Str:=toString n
theorem ud {n:Int}(h0:0<=n)(h1:n<=9999):ph (nS n).cps.toList=true:=by
 obtain⟨m,rfl⟩:=Int.eq_ofNat_of_zero_le h0;have:=uR Cz m (List.mem_range.mpr (by omega));unfold nS;rw[PySem.W.KIN.signs_num];exact this
theorem xL (c:Nat)(ρ:DL.Env)(h:ρ[0]? = some (some (.str ⟨#[c]⟩,false))):db kx kx (fC (.str ("0" : PySem.Str))) (af 0) (fC (.str ("9" : PySem.Str))) ρ=some (.bl (decide (48<=c) && decide (c<=57)),false):=by
 have e0:("0" : PySem.Str)=⟨#[48]⟩:=by decide +kernel
 have e9:("9" : PySem.Str)=⟨#[57]⟩:=by decide +kernel
 refine gv (x:=.str ⟨#[48]⟩) (y:=.str ⟨#[c]⟩) (z:=.str ⟨#[57]⟩) (b1:=false) (b2:=false) (b3:=false) (b4:=false) ?_ ?_ ?_ (ly _ _) λ_=>ly _ _
 ·rw[e0];rfl
 ·simp[h]
 ·rw[e9];rfl
theorem Fs {a b:Str}(e:a.cps.toList=b.cps.toList):a=b:=by
 obtain⟨a⟩:=a;obtain⟨b⟩:=b;simp at e;rw[e]
theorem C0 {z:Str}(h:ph z.cps.toList=true):eP [.str z]=some (.bl true,false):=by
 unfold ph at h;rw[vD,vD,vD]at h;obtain⟨⟨h1,h4⟩,ha,hz⟩:=h;have h1:=of_decide_eq_true h1;have h4:=of_decide_eq_true h4;rw[gA]at h1 h4;have hl:z.length<=sizeLine:=cu (by omega);have e0:("0" : PySem.Str)=⟨#[48]⟩:=by decide +kernel
 have AM:fA kz (ac (bB (cn (af 0)) 1 [] (dI 0) cH (db kx kx (fC (.str ("0" : PySem.Str))) (af 0) (fC (.str ("9" : PySem.Str))))) ai) [some (.str z,false)]=some (.bl true,false):=by
  have:=eC (fi:=cn (af 0)) (nT:=1) (cap:=[]) (tg:=dI 0) (fe:=db kx kx (fC (.str ("0" : PySem.Str))) (af 0) (fC (.str ("9" : PySem.Str)))) (ρ:=[some (.str z,false)]) z.cps.toList (λc=>.str ⟨#[c]⟩) (λc=>.bl (decide (48<=c) && decide (c<=57))) (by simp[oC]) (by rw[gA];omega) λc _=>
   ⟨_,rfl,false,xL c _ (by simp[eZ])⟩
  refine ak (a8 (b:=true) this rfl) ?_;simp only[kz,mw,Option.map_some,List.all_map];congr 2;exact congrArg D.bl ha
 refine ao rfl (am (bf (p:=false) (q:=false) (cL (p:=true) (aH (b:=false) ((gv (x:=.int 1) (y:=.int z.length) (z:=.int 4) (b1:=false) (b2:=false) (b3:=false) (b4:=false) (p:=true) (q:=true) rfl (by simp[hl]) rfl (by simp;omega) λ_=>by simp;omega).trans rfl))) λ_=>cL (p:=true) (aH (b:=false) AM)) (aw ?_));refine(rK (p:=decide (z=⟨#[48]⟩)) (q:=!decide (z.cps.toList.getD 0 0=48)) (b1:=false) (bq (x:=.str z) (y:=.str ⟨#[48]⟩) (b1:=false) (b2:=false) rfl (by rw[e0];rfl) (Cs _ _)) λ_=>?_).trans ?_
 ·have:=lK (z:=z) (i:=0) (by omega) (by have:z.cps.size=z.length:=rfl;omega) (by omega);refine bq (x:=.str ⟨#[z.cps.toList.getD 0 0]⟩) (y:=.str ⟨#[48]⟩) (b1:=false) (b2:=false) (bq (x:=.str z) (y:=.int 0) (b1:=false) (b2:=false) rfl rfl this) (by rw[e0];rfl) ?_;simp
 ·congr 3;by_cases hc:z=⟨#[48]⟩
  ·simp[hc]
  ·have:¬z.cps.toList=[48]:=λe=>hc (Fs e);rw[decide_eq_false this]at hz;rw[decide_eq_false hc];exact hz
theorem mK {c:FT}{f g:FE}{ρ:DL.Env}{r:OB}(e:c ρ=some true)(k:f ρ=r):p8 c f g ρ=r:=by unfold p8;rw[e];exact k
theorem sr {c:FT}{f g:FE}{ρ:DL.Env}{r:OB}(e:c ρ=some false)(k:g ρ=r):p8 c f g ρ=r:=by unfold p8;rw[e];exact k
theorem mL {n:Int}(h0:0<=n)(h1:n<=9999):bW [.str (nS n)]=some (.int n,false):=by
 have hd:=ud h0 h1;have hn:PySem.intText? (nS n)=some n:=PySem.W.KIN.num_reads h0 (by omega);have hl:(nS n).length<=640:=by
  unfold ph at hd;rw[vD,vD]at hd;have:=of_decide_eq_true hd.1.2;rw[gA]at this;omega
 refine ao rfl (aw ?_);have ht:aT (fA eP (ac (af 0) ai)) [some (.str (nS n),false)]=some true:=aH (b:=false) (ak (ds:=[.str (nS n)]) rfl (C0 hd));exact mK ht (ak (ds:=[.str (nS n)]) rfl (by simp[hn,hl]))
theorem gf {n:Int}(h0:0<=n)(h1:n<=9999):Wd (nS n):=by
 have hd:=ud h0 h1;unfold ph at hd;rw[vD,vD,vD]at hd;obtain⟨⟨_,h4⟩,ha,_⟩:=hd;have h4:=of_decide_eq_true h4;rw[gA]at h4;refine⟨λhc=>?_,λhc=>?_,by omega⟩
 ·have:=uR ha _ hc;simp at this
 ·have:=uR ha _ hc;simp at this
theorem dv {p q:Str}{r:DL.Env}{b:Bool}(h:decide (p=q)=b):aT (f2 cI (af 0) (fC (.str q))) (some (.str p,false)::r)=some b:=aH (b:=false) (bq (x:=.str p) (y:=.str q) (b1:=false) (b2:=false) rfl rfl (by simp[←h]))
theorem gU (z:Str):jw [z]=z:=by unfold jw;rw[fG];rfl
theorem ue (y z:Str):jw [y,z]=y++⟨#[32]⟩++z:=by unfold jw;rw[fG];rfl
section
variable {p:Str}{v:D}{z:Str}
theorem pi (hv:gu [v]=some (.str z,false))(h1:decide (p=("matters" : Str))=false)(h2:decide (p=("pieces" : Str))=false)(h3:decide (p=("stretch" : Str))=false)(h4:decide (p=("whom" : Str))=false)(h5:decide (p=("changes" : Str))=false):cT [.str p,v]=some (.lst (([[z]].map jw).map .str),true):=by
 have e:fA gu (ac (af 1) ai) [some (.str p,false),some (v,false),none]=some (.str z,false):=ak (ds:=[v]) rfl hv;refine ao rfl (am (dv h1) (am (dv h2) (am (bf (dv h3) λ_=>dv h4) (am (dv h5) (aw (ak (ds:=[.str z]) (a8 e rfl) ?_))))));simp[gU,sizeLine]
theorem iL {l:D}(h1:decide (p=("stretch" : Str))=false)(h2:decide (p=("pieces" : Str))=false)(h3:decide (p=("changes" : Str))=false):dh [.str p,l]=some (.int 1,false) :=
 ao rfl (am (dv h1) (am (bf (dv h2) λ_=>dv h3) (aw rfl)))
theorem jx {l:D}{b:Bool}(h:sO (.str p) aV=some (.bl b,false)):aT (f2 sO (af 0) (fC aV)) [some (.str p,false),some (l,false)]=some b:=aH (b:=false) (bq (x:=.str p) (y:=aV) (b1:=false) (b2:=false) rfl rfl h)
theorem Gs {x:D}{r:List D}{q:D}:f2 cb (af 1) (fC (.int 0)) [some (q,false),some (.lst (x::r),false)]=some (x,false):=by simp[qx]
theorem NT {x y:D}{r:List D}{q:D}:f2 cb (af 1) (fC (.int 1)) [some (q,false),some (.lst (x::y::r),false)]=some (y,false):=by simp[yo]
theorem xM {n:Int}(h0:0<=n)(h9:n<=9999)(h:sO (.str p) aV=some (.bl true,false)):dW [.str p,.lst [.str (nS n)]]=some (.int n,false) :=
 ao rfl (bu (jx h) (aw (ak (ds:=[.str (nS n)]) (a8 Gs rfl) (mL h0 h9))))
theorem xN (h:sO (.str p) aV=some (.bl false,false))(h1:decide (p=("matters" : Str))=false)(h2:decide (p=("stretch" : Str))=false)(h3:decide (p=("whom" : Str))=false)(h4:decide (p=("pieces" : Str))=false)(h5:decide (p=("changes" : Str))=false):dW [.str p,.lst [.str z]]=some (.str z,false) :=
 ao rfl (am (jx h) (am (dv h1) (am (dv h2) (am (dv h3) (am (dv h4) (am (dv h5) (aw Gs)))))))
end
theorem gV {n:Int}(h0:0<=n)(h9:n<=9999):gu [.int n]=some (.str (nS n),false):=by
 have:=kL (n:=n.natAbs) (by omega);simp[this,nS]
theorem Ft {p:Str}{n:Int}(h0:0<=n)(h9:n<=9999)(hp:bg [.str p,.int n]=some (.bl true,false))(yi:sO (.str p) aV=some (.bl true,false))
  (h1:decide (p=("matters" : Str))=false:=by decide +kernel) (h2:decide (p=("pieces" : Str))=false:=by decide +kernel) (h3:decide (p=("stretch" : Str))=false:=by decide +kernel) (h4:decide (p=("whom" : Str))=false:=by decide +kernel) (h5:decide (p=("changes" : Str))=false:=by decide +kernel):PW ⟨p,.int n,[[nS n]]⟩ :=
 ⟨hp,⟨rfl,rfl⟩,pi (gV h0 h9) h1 h2 h3 h4 h5,by simp,⟨by simp,by simp;exact gf h0 h9⟩,⟨false,xM h0 h9 yi⟩,λrest _=>iL h3 h2 h5⟩
theorem iB {z:Str}(h:gb z=true):Wd z/\z≠⟨#[45]⟩:=by
 unfold gb at h;rw[vD,vD]at h;obtain⟨⟨_,h8⟩,ha⟩:=h;have h8:=of_decide_eq_true h8;refine⟨⟨λhc=>?_,λhc=>?_,by omega⟩,λe=>?_⟩
 ·have:=uR ha _ hc;simp[fR]at this
 ·have:=uR ha _ hc;simp[fR]at this
 ·subst e;have:=uR ha 45 (by simp);simp[fR]at this
theorem uf {p z:Str}(hw:Wd z)(hp:bg [.str p,.str z]=some (.bl true,false))(yi:sO (.str p) aV=some (.bl false,false))
  (h1:decide (p=("matters" : Str))=false:=by decide +kernel) (h2:decide (p=("pieces" : Str))=false:=by decide +kernel) (h3:decide (p=("stretch" : Str))=false:=by decide +kernel) (h4:decide (p=("whom" : Str))=false:=by decide +kernel) (h5:decide (p=("changes" : Str))=false:=by decide +kernel):PW ⟨p,.str z,[[z]]⟩ :=
 ⟨hp,⟨rfl,rfl⟩,pi rfl h1 h2 h3 h4 h5,by simp,⟨by simp,by simp;exact hw⟩,⟨false,xN yi h1 h3 h4 h2 h5⟩,λrest _=>iL h3 h2 h5⟩
theorem su {p:Str}{v:D}{ch:List (List Str)}(part:bg [.str p,v]=some (.bl true,false))(flat:bd v=true/\qP v=false)(words:cT [.str p,v]=some (.lst ((ch.map jw).map .str),true))(ne:∀x∈ch,x≠[])(few:ch.length<=8/\∀x∈ch,x.length<=2/\∀w∈x,Wd w)
  (value:∃b,dW [.str p,.lst (ch.flatten.map .str)]=some (v,b)) (count:∀rest:List Str,(Pt.tail ⟨p,v,ch⟩=true->rest=[])->dh [.str p,.lst ((ch.flatten++rest).map .str)]=some (.int ch.flatten.length,false)):PW ⟨p,v,ch⟩:=⟨part,flat,words,ne,few,value,count⟩
noncomputable def uS:Option Str->Str
 |none=>⟨#[45]⟩
 |some z=>z
noncomputable def wD:Option Str->D
 |none=>.non
 |some z=>.str z
theorem Ai:cx=.str ⟨#[45]⟩:=by
 have:("-" : PySem.Str)=⟨#[45]⟩:=by decide +kernel
 unfold cx;rw[this]
theorem Aj {d:D}{z:Str}(hd:(d=.non/\z=⟨#[45]⟩)∨(there d=true/\qP d=false/\gu [d]=some (.str z,false))){r:DL.Env}:p8 (aT (f2 yZ (af 0) (fC .non))) (fC cx) (fA gu (ac (af 0) ai)) (some (d,false)::r)=some (.str z,false):=by
 rcases hd with⟨rfl,rfl⟩|⟨h1,h2,h3⟩
 ·exact mK (aH (b:=false) (bq (x:=.non) (y:=.non) (b1:=false) (b2:=false) rfl rfl (by simp[gm]))) (by rw[Ai];rfl)
 ·refine sr (aH (b:=false) (bq (x:=d) (y:=.non) (b1:=false) (b2:=false) rfl rfl ?_)) (ak (ds:=[d]) rfl h3);cases d<;>simp[gm,there]at h1 h2 ⊢
theorem ug {o:Option Str}:cT [.str "whom",wD o]=some (.lst (([[uS o]].map jw).map .str),true):=by
 have e:fA bM (ac (af 1) ai) [some (.str "whom",false),some (wD o,false),none]=some (.tup [wD o],false):=ak (ds:=[wD o]) rfl (by simp[sizeLine]);refine ao rfl (am (dv (by decide +kernel)) (am (dv (by decide +kernel)) (zX (pZ (bf (p:=false) (q:=true) (dv (by decide +kernel)) λ_=>dv (by decide +kernel)) (gM (d:=.tup [wD o]) (b:=false) (sr (dv (by decide +kernel)) e) (by cases o<;>rfl) (aw ?_))))))
 have:=eC (fi:=cn (af 2)) (nT:=1) (cap:=[]) (tg:=dI 0) (fe:=p8 (aT (f2 yZ (af 0) (fC .non))) (fC cx) (fA gu (ac (af 0) ai))) (ρ:=[some (.str "whom",false),some (wD o,false),some (.tup [wD o],false)]) [o] wD (λo=>.str (uS o)) (by simp) (by simp) λo _=>
  ⟨_,rfl,false,Aj (by cases o with
   |none=>exact .inl ⟨rfl,rfl⟩
   |some z=>exact .inr ⟨rfl,rfl,rfl⟩)⟩
 simp only[uZ,List.map_nil,gU];exact this
theorem wb {o:Option Str}(h:∀z,o=some z->gb z=true):PW ⟨("whom" : Str),wD o,[[uS o]]⟩:=by
 refine su ?_ (by cases o<;>exact⟨rfl,rfl⟩) ug (by simp) ⟨by simp,?_⟩ ⟨false,?_⟩ λrest _=>iL (by decide +kernel) (by decide +kernel) (by decide +kernel)
 ·cases o with
  |none=>exact Cr
  |some z=>
   refine ao rfl (am (c2 (by decide +kernel)) (am (c3 (by decide +kernel)) (bu (cq (by decide +kernel)) (aw ?_))));exact(rK (p:=false) (q:=true) (b1:=false) (bq (x:=.str z) (y:=.non) (b1:=false) (b2:=false) rfl rfl (by simp[gm])) λ_=>ak (ds:=[.str z]) rfl (ka (h z rfl))).trans rfl
 ·simp;cases o with
  |none=>exact⟨by simp[uS],by simp[uS],by simp[uS,cw]⟩
  |some z=>exact(iB (h z rfl)).1
 ·refine ao rfl (am (jx (bC (by decide +kernel))) (am (dv (by decide +kernel)) (am (dv (by decide +kernel)) (bu (dv (by decide +kernel)) (aw ?_)))));have e:aT (f2 cI (f2 cb (af 1) (fC (.int 0))) (fC cx)) [some (.str "whom",false),some (.lst [.str (uS o)],false)]=some (decide (uS o=⟨#[45]⟩)):=aH (b:=false) (bq (x:=.str (uS o)) (y:=.str ⟨#[45]⟩) (b1:=false) (b2:=false) Gs (by rw[Ai];rfl) (Cs _ _));cases o with
  |none=>exact mK (e.trans rfl) rfl
  |some z=>exact sr (e.trans (by rw[show uS (some z)=z from rfl,decide_eq_false (iB (h z rfl)).2])) Gs
def uN:Option Int->Str
 |none=>⟨#[45]⟩
 |some n=>nS n
noncomputable def uI:Option Int->D
 |none=>.non
 |some n=>.int n
def DA (s:Int)(o:Option Int):Prop:=0<=s/\s<=9999/\∀t,o=some t->s<t/\t<=9999
theorem Fu {n:Int}(h0:0<=n)(h9:n<=9999):nS n≠⟨#[45]⟩:=by
 intro e;have:=ud h0 h9;rw[e]at this;exact absurd this (by decide)
theorem Ik {s:Int}{o:Option Int}(g:DA s o):dH [.tup [.int s,uI o]]=some (.bl true,false):=by
 obtain⟨h0,h9,ho⟩:=g;cases o with
 |none=>exact sf h0 h9
 |some t=>
  obtain⟨h1,h2⟩:=ho t rfl;refine ao rfl (am (bf (p:=false) (q:=false) (by simp) λ_=>bf (p:=false) (q:=false) (by simp) λ_=>cL (p:=true) (aH (b:=false) (ak (ds:=[.int s]) (by simp[qx]) (iK h0 h9)))) (aw ((rK (p:=false) (q:=true) (b1:=false) (by simp[yo,gm,uI]) λ_=>(ga (p:=true) (q:=true) (b1:=false) (ak (ds:=[.int t]) (by simp[yo,uI]) (iK (by omega) h2)) λ_=>by simp[qx,yo,uI];omega).trans rfl).trans rfl)))
theorem C1 {o:Option Int}(h:∀t,o=some t->0<=t/\t<=9999):kG [.str (uN o)]=some (uI o,false):=by
 refine ao rfl (aw ?_);have e:aT (f2 cI (af 0) (fC cx)) [some (.str (uN o),false)]=some (decide (uN o=⟨#[45]⟩)):=aH (b:=false) (bq (x:=.str (uN o)) (y:=.str ⟨#[45]⟩) (b1:=false) (b2:=false) rfl (by rw[Ai];rfl) (Cs _ _));cases o with
 |none=>exact mK (e.trans rfl) rfl
 |some t=>
  obtain⟨h0,h9⟩:=h t rfl;exact sr (e.trans (by rw[show uN (some t)=nS t from rfl,decide_eq_false (Fu h0 h9)])) (ak (ds:=[.str (nS t)]) rfl (mL h0 h9))
theorem DB {o:Option Int}(h:∀t,o=some t->0<=t/\t<=9999):Wd (uN o):=by
 cases o with
 |none=>exact⟨by simp[uN],by simp[uN],by simp[uN,cw]⟩
 |some t=>exact gf (h t rfl).1 (h t rfl).2
theorem uh {s:Int}{o:Option Int}(g:DA s o):PW ⟨("stretch" : Str),.tup [.int s,uI o],[[nS s],[uN o]]⟩:=by
 have h0:=g.1;have h9:=g.2.1;have ho:∀t,o=some t->0<=t/\t<=9999:=λt e=>by have:=g.2.2 t e;omega
 refine su (tZ (Ik g)) (by cases o<;>exact⟨rfl,rfl⟩) ?_ (by simp) ⟨by simp,?_⟩ ⟨false,?_⟩ λrest _=>ao rfl (bu (dv (by decide +kernel)) (aw rfl))
 ·refine ao rfl (am (dv (by decide +kernel)) (am (dv (by decide +kernel)) (zX (pZ (bf (p:=true) (q:=true) (dv (by decide +kernel)) λh=>by cases h) (gM (d:=.tup [.int s,uI o]) (b:=false) (mK (dv (by decide +kernel)) rfl) (by cases o<;>rfl) (aw ?_))))))
  have:=eC (fi:=cn (af 2)) (nT:=1) (cap:=[]) (tg:=dI 0) (fe:=p8 (aT (f2 yZ (af 0) (fC .non))) (fC cx) (fA gu (ac (af 0) ai))) (ρ:=[some (.str "stretch",false),some (.tup [.int s,uI o],false),some (.tup [.int s,uI o],false)]) [some s,o] uI (λo=>.str (uN o)) (by simp[uI]) (by simp) λx hx=>
   ⟨_,rfl,false,Aj (by
    cases x with
    |none=>exact .inl ⟨rfl,rfl⟩
    |some t=>
     have:0<=t/\t<=9999:=by
      simp at hx;rcases hx with rfl|hx
      ·exact⟨h0,h9⟩
      ·exact ho t hx.symm
     exact .inr ⟨rfl,rfl,gV this.1 this.2⟩)⟩
  simp only[uZ,List.map_nil,gU];exact this
 ·simp;exact⟨gf h0 h9,DB ho⟩
 ·refine ao rfl (am (jx (bC (by decide +kernel))) (am (dv (by decide +kernel)) (bu (dv (by decide +kernel)) (aw (ak (ds:=[.int s,uI o]) (a8 (ak (ds:=[.str (nS s)]) (a8 Gs rfl) (mL h0 h9)) (a8 (ak (ds:=[.str (uN o)]) (a8 NT rfl) (C1 ho)) rfl)) ?_)))));simp[sizeLine]
theorem iM (ps:List Str):(ps.map λx=>[x]).flatten=ps:=by
 induction ps with
 |nil=>rfl
 |cons a l ih=>rw[uZ,List.flatten_cons,ih];rfl
theorem C2 (ps:List Str):(ps.map λx=>[x]).map jw=ps:=by
 rw[uP];exact(List.map_congr_left λx _=>gU x).trans (List.map_id _)
theorem xO {ps:List Str}(h1:1<=ps.length)(h8:ps.length<=8)(h:∀p∈ps,gb p=true):PW ⟨("pieces" : Str),.tup (ps.map .str),ps.map λx=>[x]⟩:=by
 refine su (xE (tX h1 h8 h)) ⟨aW ps,rfl⟩ ?_ (by simp) ⟨by simp[h8],?_⟩ ⟨false,?_⟩ λrest hr=>?_
 ·rw[C2];refine ao rfl (am (dv (by decide +kernel)) (zX (pZ (dv (by decide +kernel)) (aw (ak (ds:=[.tup (ps.map .str)]) rfl ?_)))));simp
 ·intro x hx;obtain⟨z,hz,rfl⟩:=vO hx;simp;exact(iB (h z hz)).1
 ·rw[iM];refine ao rfl (am (jx (bC (by decide +kernel))) (am (dv (by decide +kernel)) (am (dv (by decide +kernel)) (am (dv (by decide +kernel)) (bu (dv (by decide +kernel)) (aw (ak (ds:=[.lst (ps.map .str)]) rfl ?_)))))));simp
 ·have:rest=[]:=hr (by show(decide (("pieces" : Str)=("pieces" : Str)) || decide (("pieces" : Str)=("changes" : Str)))=true;rw[decide_eq_true rfl];rfl);subst this;rw[iM,uQ];refine ao rfl (am (dv (by decide +kernel)) (bu (bf (p:=true) (q:=true) (dv (by decide +kernel)) λh=>by cases h) (aw (ak (ds:=[.lst (ps.map .str)]) rfl ?_))));simp
noncomputable def gW (c:Int×Str):D:=.tup [.int c.1,.str c.2]
structure Ga (cs:List (Int×Str)):Prop where
 one:∀c∈cs,(0<=c.1/\c.1<=7)/\gb c.2=true
 up:(cs.map (·.1)).Pairwise (· < ·)
 len:cs.length<=8
theorem Ak (l:List D):iP l (some 1) none=l.tail:=by
 cases l with
 |nil=>rfl
 |cons d r=>exact xD d r
theorem Al:∀ {ps:List Int},ps.Pairwise (· < ·)->∀x∈ps.zip ps.tail,x.1<x.2
 |[],_,x,hx=>by cases hx
 |[a],_,x,hx=>by cases hx
 |a::b::r,h,x,hx=>by
  rcases vP hx with rfl|hx
  ·exact(List.pairwise_cons.mp h).1 b (by simp)
  ·exact Al (List.pairwise_cons.mp h).2 x hx
theorem pj:∀(xs ys:List Int),fu (xs.map .int) (ys.map .int)=(xs.zip ys).map λx=>.tup [.int x.1,.int x.2]
 |[],ys=>rfl
 |x::xs,[]=>rfl
 |x::xs,y::ys=>by have:=pj xs ys;unfold fu at this ⊢;simp[this]
theorem ui {c:Int×Str}(h:(0<=c.1/\c.1<=7)/\gb c.2=true):eF [gW c]=some (.bl true,false):=by
 refine ao rfl (am (bf (p:=false) (q:=false) (by simp[gW]) λ_=>by simp[gW]) (aw ((ga (p:=true) (q:=true) (b1:=false) (ak (ds:=[.int c.1,.int 0,.int 7]) (by simp[gW,qx,ej]) (gB h.1.1 h.1.2)) λ_=>ak (ds:=[.str c.2]) (by simp[gW,yo]) (oW h.2)).trans rfl)))
theorem sv {cs:List (Int×Str)}(g:Ga cs):gO [.tup (cs.map gW)]=some (.bl true,false):=by
 have hl:=g.len;have e1:fA kz (ac (bB (cn (af 0)) 1 [] (dI 0) cH (fA eF (ac (af 0) ai))) ai) [some (.tup (cs.map gW),false),none]=some (.bl true,false):=by
  have:=eC (fi:=cn (af 0)) (nT:=1) (cap:=[]) (tg:=dI 0) (fe:=fA eF (ac (af 0) ai)) (ρ:=[some (.tup (cs.map gW),false),none]) cs gW (λ_=>.bl true) (by simp) (by omega) λc hc=>
   ⟨_,rfl,false,ak (ds:=[gW c]) (by simp[eZ]) (ui (g.one c hc))⟩
  exact ak (a8 (b:=true) this rfl) (jZ cs)
 have e2:=eC (fi:=cn (af 0)) (nT:=1) (cap:=[]) (tg:=dI 0) (fe:=f2 cb (af 0) (fC (.int 0))) (ρ:=[some (.tup (cs.map gW),false),none]) cs gW (λc=>.int c.1) (by simp) (by omega) λc hc=>
  ⟨_,rfl,false,by simp[eZ,gW,qx]⟩
 have P2:cs.map (λc=>D.int c.1)=(cs.map (·.1)).map .int:=by rw[uP];rfl
 rw[P2]at e2;refine ao rfl (am (bf (p:=false) (q:=false) (by simp) λ_=>cL (p:=true) (aH (b:=false) e1)) (cK (ds:=(cs.map (·.1)).map .int) (show bB (cn (af 0)) 1 [] (dI 0) cH (f2 cb (af 0) (fC (.int 0))) [some (.tup (cs.map gW),false),none]=_ from e2) (rH _) (aw ?_)));have:=eC (fi:=xg (af 1) (kA (af 1) (bR (fC (.int 1))) cC)) (nT:=2) (cap:=[]) (tg:=qT [0,1]) (fe:=f2 yY (af 0) (af 1)) (ρ:=[some (.tup (cs.map gW),false),some (.lst ((cs.map (·.1)).map .int),true)]) ((cs.map (·.1)).zip (cs.map (·.1)).tail) (λx=>.tup [.int x.1,.int x.2]) (λ_=>.bl true) (by
   have:=pj (cs.map (·.1)) (cs.map (·.1)).tail;simp[Ak]at this ⊢;exact this) (by rw[List.length_zip];simp;omega) λx hx=>
  ⟨_,rfl,false,by have:=Al g.up x hx;simp[eZ,this]⟩
 exact ak (a8 (b:=true) this rfl) (jZ _)
theorem C3 (x:Str):Str.empty++x=x:=by
 obtain⟨x⟩:=x;show(⟨#[]++x⟩:Str)=⟨x⟩;simp
theorem C4 {n:Int}(h0:0<=n)(h9:n<=9999):tR (.int n)=some (nS n):=by
 have h1:=kL (n:=n.natAbs) (by omega);have h2:(nS n).length<=1000:=vR (gf h0 h9).2.2 (by omega);exact if_pos ⟨h1,h2⟩
theorem Fv {z:Str}(h:gb z=true):tR (.str z)=some z:=by
 have:z.length<=1000:=vR (iB h).1.2.2 (by omega);exact if_pos this
theorem Am {c:Int×Str}(h:(0<=c.1/\c.1<=7)/\gb c.2=true){r:DL.Env}:Ig (af 0) (" " : Str) (af 1) (some (.int c.1,false)::some (.str c.2,false)::r)=some (.str (jw [nS c.1,c.2]),false):=by
 have h1:=C4 h.1.1 (by omega:c.1<=9999);have h2:=Fv h.2;have h3:(" " : Str).length<=1000:=by decide +kernel
 simp only[Ig,af,List.getElem?_cons_zero,List.getElem?_cons_succ,vJ,h1,h2,if_pos h3];rw[ue,mG,C3]
def iN (c:Int×Str):List Str:=[nS c.1,c.2]
theorem wc:∀cs:List (Int×Str),(cs.map iN).flatten.length=2*cs.length
 |[]=>rfl
 |c::cs=>by rw[uZ,List.flatten_cons,vA,wc cs,vE];simp[iN];omega
theorem DC:∀(cs:List (Int×Str))(k:Nat)(c:Int×Str),cs[k]? = some c->((cs.map iN).flatten.drop (2*k)).take 2=iN c
 |[],k,c,h=>by cases h
 |a::cs,0,c,h=>by
  cases h
  simp[iN]
 |a::cs,k+1,c,h=>by
  have ih:=DC cs k c (by simpa using h);exact ih
theorem Fw {l:List D}{a:Nat}(h:a+2<=l.length):iP l (some (a:Int)) (some ((a:Int)+2))=(l.drop a).take 2:=by
 unfold iP;rw[jM (v:=(a:Int)) (by omega),jM (v:=(a:Int)+2) (by omega)];have e1:min ((a:Int)).toNat l.length=a:=by omega
 have e2:min ((a:Int)+2).toNat l.length=a+2:=by omega
 rw[e1,e2,Nat.add_sub_cancel_left]
theorem Fx (cs:List (Int×Str)):kD 0 2 cs.length=cs.zipIdx.map λx=>.int ((2*x.2:Nat):Int):=by
 refine List.ext_getElem? λi=>?_;unfold kD;rw[vB,vB,List.getElem?_zipIdx];by_cases h:i<cs.length
 ·rw[List.getElem?_range h,vU h];simp;omega
 ·rw[List.getElem?_eq_none (by simpa using h),List.getElem?_eq_none (by simpa using h)];rfl
theorem xP {f g h:FE}{ρ:DL.Env}{i j c:Int}{b1 b2 b3:Bool}(e1:f ρ=some (.int i,b1))(e2:g ρ=some (.int j,b2))(e3:h ρ=some (.int c,b3))(hc:(-1000<=i/\i<=1000/\-1000<=j/\j<=1000)/\(c=1∨c=2∨c=3∨c = -1)):iI f g h ρ=some (kD i c (Builtin.Range.rangeSize i j c).toNat):=by
 simp only[iI,e1,e2,e3,vJ];exact if_pos hc
theorem An {cs:List (Int×Str)}(g:Ga cs):∃b,gR [.lst ((cs.map iN).flatten.map .str)]=some (.tup (cs.map gW),b):=by
 have hl:=g.len;by_cases h0:cs=[]
 ·subst h0;exact⟨_,bC (b:=false) (by decide +kernel)⟩
 have hn:=wc cs;refine⟨false,ao rfl (K8 (d:=.lst (cs.zipIdx.map λx=>.lst ((iN x.1).map .str))) (b:=true) ?_ ?_ (.inr ?_) (aw (ak (ds:=[.lst (cs.map gW)]) (a8 (b:=true) ?_ rfl) ?_)))⟩
 ·refine eC (fi:=iI (fC (.int 0)) (fA bQ (ac (af 0) ai)) (fC (.int 2))) (nT:=1) (cap:=[0]) (tg:=dI 0) (fe:=kA (af 1) (bR (af 0)) (bR (f2 bp (af 0) (fC (.int 2))))) (ρ:=[some (.lst ((cs.map iN).flatten.map .str),false),none]) cs.zipIdx (λx=>.int ((2*x.2:Nat):Int)) (λx=>.lst ((iN x.1).map .str)) ?_ (by simp;omega) λx hx=>?_
  ·have e:(Builtin.Range.rangeSize 0 ((2*cs.length:Nat):Int) 2).toNat=cs.length:=by
    unfold Builtin.Range.rangeSize;simp;omega
   have hc:(-1000<=(0:Int)/\(0:Int)<=1000/\-1000<=((2*cs.length:Nat):Int)/\((2*cs.length:Nat):Int)<=1000)/\((2:Int)=1∨(2:Int)=2∨(2:Int)=3∨(2:Int) = -1):=⟨by omega,by omega⟩;have bD:fA bQ (ac (af 0) ai) [some (.lst ((cs.map iN).flatten.map .str),false),none]=some (.int ((2*cs.length:Nat):Int),false):=ak (ds:=[.lst ((cs.map iN).flatten.map .str)]) rfl (by rw[gN,vI,hn]);rw[xP (b1:=false) (b2:=false) (b3:=false) rfl bD rfl hc,e,Fx]
  ·obtain⟨c,k⟩:=x;have hk:cs[k]? = some c:=List.mem_zipIdx_iff_getElem?.mp hx;have gi:k<cs.length:=(vV hk).1;have:=Fw (l:=(cs.map iN).flatten.map D.str) (a:=2*k) (by rw[vI,hn];omega);rw[←List.map_drop,←List.map_take,DC cs k c hk]at this;refine⟨_,rfl,true,?_⟩;simp[eZ]at this ⊢;exact this
 ·obtain⟨c,r,rfl⟩:=List.exists_cons_of_ne_nil h0;rfl
 ·obtain⟨c,r,rfl⟩:=List.exists_cons_of_ne_nil h0;rfl
 ·have hz:cs.zipIdx.map (λx=>D.lst ((iN x.1).map .str))=cs.map λc=>.lst ((iN c).map .str):=by
   have:=congrArg (List.map λc=>D.lst ((iN c).map .str)) (List.zipIdx_map_fst 0 cs);rw[uP]at this;exact this
  rw[hz];refine eC (fi:=cn (af 1)) (nT:=1) (cap:=[]) (tg:=dI 0) (fe:=fA bH (ac (f2 bp (fA aY (ac (fA bW (ac (f2 cb (af 0) (fC (.int 0))) ai)) ai)) (kA (af 0) (bR (fC (.int 1))) cC)) ai)) (ρ:=[some (.lst ((cs.map iN).flatten.map .str),false),some (.lst (cs.map λc=>.lst ((iN c).map .str)),false)]) cs (λc=>.lst ((iN c).map .str)) gW (by simp) (by omega) λc hc=>?_;obtain⟨⟨h1,h2⟩,h3⟩:=g.one c hc;refine⟨_,rfl,false,ak (ds:=[.lst [.int c.1,.str c.2]]) (a8 (b:=true) (bq (x:=.lst [.int c.1]) (y:=.lst [.str c.2]) (b1:=true) (b2:=true) (ak (ds:=[.int c.1]) (a8 (ak (ds:=[.str (nS c.1)]) (a8 (b:=false) ?_ rfl) (mL h1 (by omega))) rfl) (by simp[sizeLine])) ?_ (by simp[sizeLine])) rfl) (by simp[gW])⟩
  ·simp[eZ,iN,qx]
  ·simp[eZ,iN,xD]
 ·have:aS (cs.map gW)=true:=bP (by intro d hd;obtain⟨c,_,rfl⟩:=vO hd;rfl);simp[this]
theorem uj {cs:List (Int×Str)}(g:Ga cs):PW ⟨("changes" : Str),.tup (cs.map gW),cs.map iN⟩:=by
 have hl:=g.len;refine su ?_ ⟨bP (by intro d hd;obtain⟨c,_,rfl⟩:=vO hd;rfl),rfl⟩ ?_ (by intro x hx;obtain⟨c,_,rfl⟩:=vO hx;simp[iN]) ⟨by simpa using hl,?_⟩ ?_ λrest hr=>?_
 ·exact ao rfl (am (c2 (by decide +kernel)) (am (c3 (by decide +kernel)) (am (cq (by decide +kernel)) (am (cq (by decide +kernel)) (am (cq (by decide +kernel)) (am (cq (by decide +kernel)) (am (cq (by decide +kernel)) (am (cq (by decide +kernel)) (am (cq (by decide +kernel)) (aw (ak (ds:=[.tup (cs.map gW)]) rfl (sv g))))))))))))
 ·have:=eC (fi:=cn (af 1)) (nT:=2) (cap:=[]) (tg:=qT [0,1]) (fe:=Ig (af 0) (" " : Str) (af 1)) (ρ:=[some (.str "changes",false),some (.tup (cs.map gW),false),none]) cs gW (λc=>.str (jw (iN c))) (by simp) (by omega) λc hc=>
   ⟨_,rfl,false,Am (g.one c hc)⟩
  rw[uP,uP];exact ao rfl (am (dv (by decide +kernel)) (am (dv (by decide +kernel)) (am (bf (p:=false) (q:=false) (dv (by decide +kernel)) λ_=>dv (by decide +kernel)) (bu (dv (by decide +kernel)) (aw this)))))
 ·intro x hx;obtain⟨c,hc,rfl⟩:=vO hx;have:=g.one c hc;simp[iN];exact⟨gf this.1.1 (by omega),(iB this.2).1⟩
 ·obtain⟨b,hv⟩:=An g;exact⟨b,ao rfl (am (jx (bC (by decide +kernel))) (am (dv (by decide +kernel)) (am (dv (by decide +kernel)) (am (dv (by decide +kernel)) (am (dv (by decide +kernel)) (bu (dv (by decide +kernel)) (aw (ak (ds:=[.lst ((cs.map iN).flatten.map .str)]) rfl hv))))))))⟩
 ·have:rest=[]:=hr (by show(decide (("changes" : Str)=("pieces" : Str)) || decide (("changes" : Str)=("changes" : Str)))=true;decide +kernel);subst this;rw[uQ];refine ao rfl (am (dv (by decide +kernel)) (bu (bf (p:=false) (q:=true) (dv (by decide +kernel)) λ_=>dv (by decide +kernel)) (aw (ak (ds:=[.lst ((cs.map iN).flatten.map .str)]) rfl ?_))));rw[gN,vI]
noncomputable def yp (m:Nat):Str:=⟨(((List.range 8).filter (λk=>decide (m / 2 ^ k % 2=1))).map (97 + ·)).toArray⟩
theorem C5:(List.range 256).all (λ(m:Nat)=>AR (eQ [.int m]) (.str (yp m)) false)=true:=by decide +kernel
theorem C6:(List.range 256).all (λ(m:Nat)=>decide (m=0) || AR (gQ [.str (yp m)]) (.int m) false)=true:=by decide +kernel
theorem C7:(List.range 256).all (λ(m:Nat)=>AR (bI 6 [.str "m",.int m]) (.str (yp m)) false)=true:=by decide +kernel
theorem Fy:(List.range 256).all (λ(m:Nat)=>(yp m).cps.toList.all fR && decide ((yp m).length<=8))=true:=by decide +kernel
theorem C8 {p:Nat->Bool}(h:(List.range 256).all p=true){m:Nat}(hm:m<=255):p m=true:=uR h m (List.mem_range.mpr (by omega))
theorem Fz {m:Nat}(h:m<=255):Wd (yp m):=by
 have:=C8 Fy h;rw[vD]at this;have h8:=of_decide_eq_true this.2;refine⟨λhc=>?_,λhc=>?_,by omega⟩
 ·have:=uR this.1 _ hc;simp[fR]at this
 ·have:=uR this.1 _ hc;simp[fR]at this
theorem uk {m:Nat}(h1:1<=m)(h:m<=255):PW ⟨("matters" : Str),.int m,[[yp m]]⟩:=by
 refine su (tY (se (by omega) (by omega))) ⟨rfl,rfl⟩ ?_ (by simp) ⟨by simp,by simp;exact Fz h⟩ ⟨false,?_⟩ λrest _=>iL (by decide +kernel) (by decide +kernel) (by decide +kernel)
 ·refine ao rfl (bu (dv (by decide +kernel)) (aw (ak (ds:=[.str (yp m)]) (a8 (ak (ds:=[.int m]) rfl (bC (C8 C5 h))) rfl) ?_)));simp[gU,sizeLine]
 ·have:=C8 C6 h;rw[decide_eq_false (by omega),Bool.false_or]at this;exact ao rfl (am (jx (bC (by decide +kernel))) (bu (dv (by decide +kernel)) (aw (ak (ds:=[.str (yp m)]) (a8 Gs rfl) (bC this)))))
structure Rw where
 h:Int
 kind:Str
 L:List Pt
def Rw.d (r:Rw):D:=row r.h r.kind (r.L.map (·.v))
def Rw.ws (r:Rw):List Str:=mI r.h r.kind r.L
def Rw.t (r:Rw):Str:=jw r.ws
theorem Ao {zs:List Str}{k:Nat}{r:Rw}(g:RL zs k r.h r.kind r.L):∀w∈r.ws,Wd w:=by
 intro w hw;rcases vP hw with rfl|hw
 ·exact gf g.h0 g.h1
 ·rcases vP hw with rfl|hw
  ·exact g.kw
  ·exact D9 g.pw w hw
theorem F0 {zs:List Str}{k:Nat}{r:Rw}(g:RL zs k r.h r.kind r.L):r.ws.length<=130:=by
 have:=qh g.pw;have:=g.len;show((Str.ofString (toString r.h))::r.kind::gT r.L).length<=130;simp;omega
theorem Ap {zs:List Str}{k:Nat}{r:Rw}(g:RL zs k r.h r.kind r.L):r.t.length<=3000:=by
 refine vR (jL _ r.ws) ?_;have h1:=mH (l:=r.ws) (k:=20) λx hx=>(Ao g x hx).2.2;have h2:=F0 g;rw[cw];omega
theorem Aq {c x:Nat}:∀ {l:List (List Nat)},x∈jn c l->x=c∨∃y∈l,x∈y
 |[],h=>by cases h
 |[a],h=>.inr ⟨a,by simp,h⟩
 |a::b::r,h=>by
  rcases List.mem_append.mp h with h|h
  ·exact .inr ⟨a,by simp,h⟩
  ·rcases vP h with h|h
   ·exact .inl h
   ·rcases Aq h with h|⟨y,hy,h⟩
    ·exact .inl h
    ·exact .inr ⟨y,mZ _ hy,h⟩
theorem KI {zs:List Str}{k:Nat}{r:Rw}(g:RL zs k r.h r.kind r.L):10∉r.t.cps.toList:=by
 unfold Rw.t jw;rw[fG,jY];intro h;rcases Aq h with h|⟨y,hy,h⟩
 ·cases h
 ·obtain⟨w,hw,rfl⟩:=vO hy;exact(Ao g w hw).2.1 h
theorem xQ {zs:List Str}{k:Nat}{r:Rw}(g:RL zs k r.h r.kind r.L):jX [.str r.t]=some (r.d,false):=by
 have hs:Txt.split r.t ⟨#[32]⟩=r.ws:=m9 (by simp[Rw.ws,mI]) λw hw=>(Ao g w hw).1;have hd:=Cy g.pw g.last g.len (by have:=qh g.pw;have:=g.len;omega) g.parts;have hl:=Ap g;have LI:(aO.lookup r.kind).isSome=true:=by
  have hp:=g.parts;simp only[fw]at hp;obtain⟨d,h1,_⟩:=oY hp;rw[h1];rfl
 have hn:bW [.str (Str.ofString (toString r.h))]=some (.int r.h,false):=mL g.h0 g.h1;have LL:qe zs k r.d:=⟨r.h,r.kind,_,rfl,g.h0,g.h1,g.good⟩;have hf:bd r.d=true:=by
  have:aS (r.L.map (·.v))=true:=bP (by intro d hd;obtain⟨t,ht,rfl⟩:=vO hd;exact(g.pw t ht).flat.1);simp[Rw.d,row,this]
 have e1:f2 gL (af 0) (fC (.str " ")) [some (.str r.t,false),none,none]=some (.lst (r.ws.map .str),true):=by
  refine bq (x:=.str r.t) (y:=.str ⟨#[32]⟩) (b1:=false) (b2:=false) rfl (by rw[mG];rfl) ?_;have:0<(⟨#[32]⟩:Str).length/\r.t.length<=100000:=⟨by rw[cw];omega,by omega⟩;simp only[gL,if_pos this,hs]
 have hw:r.ws.map D.str=.str (Str.ofString (toString r.h))::.str r.kind::(gT r.L).map .str:=rfl;rw[hw]at e1;refine ao rfl (cK (ds:=.str (Str.ofString (toString r.h))::.str r.kind::(gT r.L).map .str) e1 (by rw[←hw];exact aW _) (am (bf (p:=false) (q:=false) (aH (b:=false) ?_) λ_=>aH (b:=false) (oV (x:=.str r.kind) (b:=false) (by simp[yo]) ?_)) (gM (d:=r.d) (b:=false) (ak (ds:=[.int r.h,.tup (.str r.kind::r.L.map (·.v))]) (a8 (b:=false) (ak (ds:=[.str (Str.ofString (toString r.h))]) (a8 (b:=false) ?_ rfl) hn) (a8 (b:=false) (ak (ds:=[.lst ((r.kind::gT r.L).map .str)]) (a8 (b:=true) ?_ rfl) hd) rfl)) ?_) hf (aw (mK (aH (b:=false) (ak (ds:=[r.d]) rfl (vN LL))) rfl)))))
 ·refine bq (x:=.int ((D.str (Str.ofString (toString r.h))::D.str r.kind::(gT r.L).map D.str).length:Nat)) (y:=.int 2) (b1:=false) (b2:=false) rfl rfl ?_;simp;omega
 ·simp only[jp,LI];rfl
 ·simp[qx]
 ·simp[xD]
 ·simp[sizeLine,Rw.d,row]
structure AllR (zs:List Str)(M:List Rw):Prop where
 len:M.length<=30
 nm:Nm6 zs
 rl:∀(j:Nat) r,M[j]? = some r->RL zs j r.h r.kind r.L
theorem AllR.mem {zs:List Str}{M:List Rw}(g:AllR zs M){r:Rw}(h:r∈M):∃j,RL zs j r.h r.kind r.L:=by
 obtain⟨j,hj⟩:=List.mem_iff_getElem?.mp h;exact⟨j,g.rl j r hj⟩
theorem AllR.take {zs:List Str}{M:List Rw}(g:AllR zs M)(n:Nat):AllR zs (M.take n) :=
 ⟨by rw[List.length_take];have:=g.len;omega,g.nm,λj r h=>g.rl j r (by
  rw[List.getElem?_take]at h;split at h
  ·exact h
  ·cases h)⟩
theorem AllR.rows {zs:List Str}{M:List Rw}(g:AllR zs M):pb zs (M.map Rw.d):=by
 refine⟨⟨by rw[vI];exact g.len,g.nm⟩,λj r h=>?_⟩;rw[vB]at h;obtain⟨x,hx,rfl⟩:=oY h;have:=g.rl j x hx;exact⟨x.h,x.kind,_,rfl,this.h0,this.h1,this.good⟩
theorem AllR.flat {zs:List Str}{M:List Rw}(g:AllR zs M):aS (M.map Rw.d)=true:=bP (by
 intro d hd;obtain⟨r,hr,rfl⟩:=vO hd;obtain⟨j,gr⟩:=g.mem hr;have:aS (r.L.map (·.v))=true:=bP (by intro d hd;obtain⟨t,ht,rfl⟩:=vO hd;exact(gr.pw t ht).flat.1);simp[Rw.d,row,this])
noncomputable def mW (M:List Rw):Str:=Txt.join ⟨#[10]⟩ (M.map Rw.t)
theorem mM {zs:List Str}{M:List Rw}(g:AllR zs M):dg (.str ("\n" : PySem.Str)) (.lst ((M.map Rw.t).map .str))=some (.str (mW M),false):=by
 rw[D7];refine qg (k:=3000) (by omega) ?_ (by rw[vI];have:=g.len;omega);intro u hu;obtain⟨r,hr,rfl⟩:=vO hu;obtain⟨j,gr⟩:=g.mem hr;exact Ap gr
theorem Ar {zs:List Str}{M:List Rw}(g:AllR zs M):l7 [.tup (M.map Rw.d)]=some (.str (mW M),false):=by
 have hl:=g.len;refine ao rfl (aw (bq (x:=.str ("\n" : PySem.Str)) (y:=.lst ((M.map Rw.t).map .str)) (b1:=false) (b2:=true) rfl ?_ (mM g)));rw[uP];refine eC (fi:=cn (af 0)) (nT:=1) (cap:=[]) (tg:=dI 0) (fe:=fA iJ (ac (af 0) ai)) (ρ:=[some (.tup (M.map Rw.d),false)]) M Rw.d (λr=>.str r.t) (by simp) (by omega) λr hr=>?_;obtain⟨j,gr⟩:=g.mem hr;exact⟨_,rfl,false,ak (ds:=[r.d]) rfl (Cw gr.pw gr.len gr.h0 gr.h1 gr.kl (gf gr.h0 gr.h1).2.2 gr.parts)⟩
theorem C9 {zs:List Str}{M:List Rw}(g:AllR zs M):tV [.str (mW M)]=some (.tup (M.map Rw.d),false):=by
 have hl:=g.len;have Gb:=le g.rows g.flat (.lst (M.map Rw.d)) (.inl rfl);have e0:("" : Str)=⟨#[]⟩:=by decide +kernel
 have P4:(mW M).length<=100000:=by
  refine vR (jL _ (M.map Rw.t)) ?_;have h1:=mH (l:=M.map Rw.t) (k:=3000) (by
   intro u hu;obtain⟨r,hr,rfl⟩:=vO hu;obtain⟨j,gr⟩:=g.mem hr;exact Ap gr)
  rw[vI]at h1 ⊢;rw[cw];omega
 have e1:p8 (aT (f2 tt (af 0) (fC (.str "")))) (f2 gL (af 0) (fC (.str ("\n" : PySem.Str)))) (fA aY ai) [some (.str (mW M),false),none,none]=some (.lst ((M.map Rw.t).map .str),true):=by
  have ht:aT (f2 tt (af 0) (fC (.str ""))) [some (.str (mW M),false),none,none]=some (!decide (mW M=⟨#[]⟩)):=aH (b:=false) (bq (x:=.str (mW M)) (y:=.str ⟨#[]⟩) (b1:=false) (b2:=false) rfl (by rw[e0];rfl) (by simp));by_cases hM:M=[]
  ·subst hM;exact sr (ht.trans rfl) (by simp[sizeLine])
  ·have yg:¬mW M=⟨#[]⟩:=by
    intro e;obtain⟨r,M',rfl⟩:=List.exists_cons_of_ne_nil hM;have e:=congrArg (λz:Str=>z.cps.toList) e;unfold mW at e;rw[fG]at e;simp only[jY]at e;obtain⟨j,gr⟩:=g.mem (r:=r) (by simp);have hr:r.t.cps.toList≠[]:=by
     unfold Rw.t jw;rw[fG,jY];intro h;have:jn 32 (r.ws.map (·.cps.toList))=(Str.ofString (toString r.h)).cps.toList++32::jn 32 (r.kind.cps.toList::(gT r.L).map (·.cps.toList)):=rfl;rw[this]at h;simp at h
    cases M' with
    |nil=>exact hr e
    |cons s M'=>
     have e:r.t.cps.toList++10::jn 10 (s.t.cps.toList::(M'.map Rw.t).map (·.cps.toList))=[]:=e;simp at e
   refine mK (ht.trans (by rw[decide_eq_false yg];rfl)) (bq (x:=.str (mW M)) (y:=.str ⟨#[10]⟩) (b1:=false) (b2:=false) rfl (by rw[D7];rfl) ?_);have hs:Txt.split (mW M) ⟨#[10]⟩=M.map Rw.t:=m9 (by simp[hM]) (by
    intro w hw;obtain⟨r,hr,rfl⟩:=vO hw;obtain⟨j,gr⟩:=g.mem hr;exact KI gr)
   have:0<(⟨#[10]⟩:Str).length/\(mW M).length<=100000:=⟨by rw[cw];omega,P4⟩;simp only[gL,if_pos this,hs]
 refine ao rfl (am (cL (p:=true) (by simp)) (cK (ds:=(M.map Rw.t).map .str) e1 (aW _) (cK (ds:=M.map Rw.d) ?_ g.flat (am (aH (b:=false) (bq (x:=.non) (y:=.lst (M.map Rw.d)) (b1:=false) (b2:=false) rfl rfl ?_)) (aw (ak (ds:=[.lst (M.map Rw.d)]) rfl Gb))))))
 ·refine eC (fi:=cn (af 1)) (nT:=1) (cap:=[]) (tg:=dI 0) (fe:=fA jX (ac (af 0) ai)) (ρ:=[some (.str (mW M),false),some (.lst ((M.map Rw.t).map .str),true),none]) M (λr=>.str r.t) Rw.d (by simp) (by omega) λr hr=>?_;obtain⟨j,gr⟩:=g.mem hr;exact⟨_,rfl,false,ak (ds:=[.str r.t]) rfl (xQ gr)⟩
 ·have h1:(M.map Rw.d).all K7=true:=by rw[List.all_eq_true];intro d hd;obtain⟨r,_,rfl⟩:=vO hd;rfl
  have h2:(M.map Rw.d).any zO=false:=by rw[List.any_eq_false];intro d hd;obtain⟨r,_,rfl⟩:=vO hd;exact uY
  simp only[Jy,if_pos h1,h2]
noncomputable abbrev sF (d:D):OB:=some (d,false)
noncomputable abbrev lT (ds:List D):OB:=some (.lst ds,true)
theorem sw (a:Int){m:Int}(h:0<m):bc (.int a) (.int m)=some (.int (a % m),false):=by simp[h]
theorem F3 (a:Int){m:Int}(h:0<m)(h2:m<1073741824):b9 (.int a) (.int m)=some (.int (a / m),false):=by simp[h,h2]
theorem im {f:FE}{ρ:DL.Env}{a m:Int}(e:f ρ=sF (.int a))(h:0<m):f2 bc f (fI m) ρ=sF (.int (a % m)):=dN (.int a) (.int m) e rfl (sw a h)
theorem kh {f:FE}{ρ:DL.Env}{a m:Int}(e:f ρ=sF (.int a))(h:0<m)(h2:m<1073741824):f2 b9 f (fI m) ρ=sF (.int (a / m)):=dN (.int a) (.int m) e rfl (F3 a h h2)
theorem ul (a:Int){b:Int}(h : -1000000<=b/\b<=1000000):iQ (.int a) (.int b)=some (.int (a*b),false):=by
 have : -18446744073709551616<b/\b<18446744073709551616:=by omega
 simp[this]
theorem qi {k:Int}(h : -1000000000000<=k/\k<=1000000000000):Builtin.Int.intBits k<=64:=intBits_le_64 (by omega) (by omega)
theorem l8 {ns:List Int}(hf:HZ ns)(k:Nat)(hk:k<=100):∃c:Int,bX [.lst (ns.map .int),.int k]=sF (.int c):=by
 have bD:∀ρ:DL.Env,ρ[0]? = some (sF (.lst (ns.map .int)))->fA bQ (fV 0 ai) ρ=sF (.int ns.length):=λρ h=>by
  refine oD [.lst (ns.map .int)] (cA (by simp[h]) rfl) ?_;rw[gN,vI]
 have hW:∀v:Int,Builtin.Int.intBits v<=2097152->aD (f2 bc (f2 Fg (af 2) (af 2)) (fI 2147483549)) [sF (.lst (ns.map .int)),sF (.int k),sF (.int v)]=some (.rt (.int (v*v % 2147483549)) false):=λv hv=>
  aw (im (dN (.int v) (.int v) rfl rfl (by simp[hv])) (by decide))
 by_cases h:k<ns.length
 ·refine⟨ns.getD k 0,ao rfl (bu (Cq (dN (.int k) (.int ns.length) rfl (bD _ rfl) (by simp;omega))) (aw (dN (.lst (ns.map .int)) (.int k) rfl rfl ?_)))⟩;have:=v7 (xs:=ns) (i:=k) (by omega) (by simpa using h);rw[Int.toNat_natCast]at this;exact this
 ·have P5:Builtin.Int.intBits (40009*(k:Int)+23)<=64:=qi (by omega);have e0:f2 bp (f2 iQ (fI 40009) (af 1)) (fI 23) [sF (.lst (ns.map .int)),sF (.int k),none]=sF (.int (40009*k+23)):=dN (.int (40009*k)) (.int 23) (dN (.int 40009) (.int k) rfl rfl (ul _ (by omega))) rfl rfl;have t1:aT (f2 yY (af 1) (fA bQ (fV 0 ai))) [sF (.lst (ns.map .int)),sF (.int k),none]=some false:=Cq (dN (.int k) (.int ns.length) rfl (bD _ rfl) (by simp;omega));by_cases hz:0<ns.length
  ·have JM:(0:Int)<ns.length:=by omega
   have h5:=mod_lt (x:=(k:Int)*17) JM;obtain⟨j,hj⟩:∃j:Nat,(k:Int)*17 % ns.length=j:=⟨((k:Int)*17 % ns.length).toNat,by omega⟩;have LM:j<ns.length:=by omega
   have hb:Builtin.Int.intBits (ns.getD j 0)<=1048576:=hf _ (by rw[List.getD_eq_getElem?_getD,vU LM];exact List.getElem_mem LM);have ei:f2 cb (af 0) (f2 bc (f2 iQ (af 1) (fI 17)) (fA bQ (fV 0 ai))) [sF (.lst (ns.map .int)),sF (.int k),sF (.int (40009*k+23))]=sF (.int (ns.getD j 0)):=by
    refine dN (.lst (ns.map .int)) (.int j) rfl (hj ▸ dN (.int (k*17)) (.int ns.length) (dN (.int k) (.int 17) rfl rfl (ul _ (by decide))) (bD _ rfl) (sw _ JM)) ?_;have:=v7 (xs:=ns) (i:=j) (by omega) (by simpa using LM);rw[Int.toNat_natCast]at this;exact this
   generalize ns.getD j 0=x at hb ei;have LN:(k:Int)*k<=10000/\0<=(k:Int)*k:=by
    have h1:k*k<=100*100:=Nat.mul_le_mul hk hk;rw[←Int.natCast_mul];omega
   have ev:f2 bp (f2 bp (f2 iQ (f2 cb (af 0) (f2 bc (f2 iQ (af 1) (fI 17)) (fA bQ (fV 0 ai)))) (fI 16807)) (f2 iQ (f2 iQ (af 1) (af 1)) (fI 4001))) (fI 9) [sF (.lst (ns.map .int)),sF (.int k),sF (.int (40009*k+23))]=sF (.int (x*16807+k*k*4001+9)) :=
    dN (.int (x*16807+k*k*4001)) (.int 9) (dN (.int (x*16807)) (.int (k*k*4001)) (dN (.int x) (.int 16807) ei rfl (ul _ (by decide))) (dN (.int (k*k)) (.int 4001) (dN (.int k) (.int k) rfl rfl (ul _ (by omega))) rfl (ul _ (by decide))) rfl) rfl rfl
   generalize (k:Int)*k=y at LN ev;have P6:Builtin.Int.intBits (x*16807+y*4001+9)<=2097152:=by
    have h1:=intBits_mul_le hb (qi (k:=16807) (by decide));have h2:=intBits_add_le h1 (qi (k:=y*4001) (by omega));have h3:=intBits_add_le h2 (qi (k:=9) (by decide));exact vR h3 (by decide)
   exact⟨_,ao rfl (am t1 (qw (.int (40009*k+23)) e0 rfl (dM (pZ (Cq (dN (.int ns.length) (.int 0) (bD _ rfl) rfl (by simp;omega))) (mr ev rfl)) (hW _ P6))))⟩
  ·refine⟨_,ao rfl (am t1 (qw (.int (40009*k+23)) e0 rfl (dM (tT (Cq (dN (.int ns.length) (.int 0) (bD _ rfl) rfl (by rw[show(ns.length:Int)=0 by omega];rfl))) rfl) (hW (40009*k+23) (vR P5 (by decide))))))⟩
theorem F4 {ρ:DL.Env}{i n:Nat}{ds:List D}{fk fv:FE}{d:D}{b b':Bool}(e:ρ[i]? = some (some (.lst ds,true)))(ev:fv ρ=some (d,b))(ek:fk ρ=some (.int n,b'))(hn:n<ds.length)(hf:bd d=true):zr i fk fv ρ=some (.nx (ρ.set i (some (.lst (ds.set n d),true)))):=by
 have hx:y9 ds.length (n:Int)=some n:=by
  unfold y9;rw[if_pos (by omega)];simp[hn]
 simp only[zr,e,ev,ek,vJ,hx,if_pos hf]
theorem sx (x:Int):0<=x % 26/\x % 26<26:=mod_lt (by decide)
noncomputable def kM:PySem.Str:="abcdefghijklmnopqrstuvwxyz"
theorem xR:kM.cps.size=26:=by decide +kernel
def AS (x:Int):Nat:=kM.cps.toList.getD (x % 26).toNat 0
theorem As (x:Int):cb (.str kM) (.int (x % 26))=sF (.str ⟨#[AS x]⟩):=DL.lK (sx x).1 (by rw[xR];have:=sx x;omega) (by decide +kernel)
theorem Au:∀i:_root_.Fin 26,fR (kM.cps.toList.getD i.val 0)=true:=by decide +kernel
theorem Av:∀i j:_root_.Fin 26,kM.cps.toList.getD i.val 0=kM.cps.toList.getD j.val 0->i=j:=by decide +kernel
theorem wd (x:Int):fR (AS x)=true:=Au ⟨(x % 26).toNat,by have:=sx x;omega⟩
theorem CA {x y:Int}(h:AS x=AS y):x % 26=y % 26:=by
 have hx:=sx x;have hy:=sx y;have:=Av ⟨(x % 26).toNat,by omega⟩ ⟨(y % 26).toNat,by omega⟩ h;injection this;omega
noncomputable def sg (cs:List Nat):List Str:=cs.map λc=>⟨#[c]⟩
theorem Aw:∀cs:List Nat,((sg cs).map (·.length)).sum=cs.length
 |[]=>rfl
 |c::cs=>by
  show 1+((sg cs).map (·.length)).sum=cs.length+1;rw[Aw cs];omega
theorem sy:∀(zs:List Str)(y:Str),(Str.join ("" : Str) (y::zs)).cps.toList=(y::zs).flatMap λz=>z.cps.toList
 |[],y=>by rw[List.flatMap_cons,List.flatMap_nil,uQ];rfl
 |z::r,y=>by
  have e3:∀a b:Str,(a++b).cps.toList=a.cps.toList++b.cps.toList:=λa b=>by show(a.cps++b.cps).toList=_;simp
  show(y++("" : Str)++Str.join ("" : Str) (z::r)).cps.toList=_;rw[e3,e3,sy r z,show("" : Str).cps.toList=[]from rfl,uQ];rfl
theorem Ax {zs:List Str}(h:zs≠[]):(Txt.join ("" : Str) zs).cps.toList=zs.flatMap λz=>z.cps.toList:=by
 cases zs with
 |nil=>exact absurd rfl h
 |cons y zs=>
  unfold Txt.join;rw[StrLaws.glued_eq_join];exact sy zs y
theorem um {cs:List Nat}(h:cs≠[]):(Txt.join ("" : Str) (sg cs)).cps.toList=cs:=by
 rw[Ax (by simpa [sg]using h)];unfold sg;rw[List.flatMap_map];exact List.flatMap_singleton' cs
theorem Il {cs:List Nat}(h1:1<=cs.length)(h8:cs.length<=8)(hl:∀c∈cs,fR c=true):gb (Txt.join ("" : Str) (sg cs))=true:=by
 have e:=um (cs:=cs) (λz=>by rw[z]at h1;cases h1);unfold gb;rw[←gA,e,vD,vD,List.all_eq_true];exact⟨⟨decide_eq_true h1,decide_eq_true h8⟩,hl⟩
theorem CB (cs:List Nat)(h:cs.length<=1000):dg (.str "") (.lst ((sg cs).map .str))=sF (.str (Txt.join ("" : Str) (sg cs))):=by
 show(fO ((sg cs).map .str)).bind _=_;rw[mE];show(if _ then _ else _)=_;rw[Aw,show("" : Str).length=0 from rfl,if_pos (by omega)]
noncomputable def Im:List Str:=[("leave" : Str),("paper" : Str),("root" : Str),("open" : Str),("a" : Str),("copy" : Str)]
theorem Ay (c:Int):∃zs:List Str,kI [.int c]=lT (zs.map .str)/\Nm6 zs:=by
 have h8:=mod_lt (x:=c) (m:=8) (by decide);obtain⟨n,hn⟩:∃n:Nat,1+c % 8=n:=⟨(1+c % 8).toNat,by omega⟩;let bs:List Nat:=(List.range n).map λ(k:Nat)=>AS (c / (3+4*k));have LO:bs.length=n:=by simp[bs]
 have Lm:∀x∈bs,fR x=true:=λx hx=>by obtain⟨k,_,rfl⟩:=vO hx;exact wd _
 have hb:=eC (fi:=dc (f2 bp (fI 1) (f2 bc (af 0) (fI 8)))) (nT:=1) (cap:=[1,0]) (tg:=dI 0) (fe:=f2 cb (af 1) (f2 bc (f2 b9 (af 2) (f2 bp (fI 3) (f2 iQ (fI 4) (af 0)))) (fI 26)))
  (ρ:=[sF (.int c),sF (.str kM),none,none,none,none,none]) (List.range n) (λ(k:Nat)=>.int k) (λ(k:Nat)=>.str ⟨#[AS (c / (3+4*k))]⟩)
  (by rw[dQ (j:=n) (b:=false) (hn ▸ dN (.int 1) (.int (c % 8)) rfl (im rfl (by decide)) rfl) (by omega),kE,uP];rfl) (by simp;omega) λk hk=>by
   have hk:=List.mem_range.mp hk;exact⟨_,rfl,false,dN (.str kM) (.int (c / (3+4*k) % 26)) rfl (im (dN (.int c) (.int (3+4*k)) rfl (dN (.int 3) (.int (4*k)) rfl (dN (.int 4) (.int k) rfl rfl (ul _ (by omega))) rfl) (F3 _ (by omega) (by omega))) (by decide)) (As _)⟩
 have Nl:(List.range n).map (λ(k:Nat)=>D.str ⟨#[AS (c / (3+4*k))]⟩)=(sg bs).map .str:=by simp[sg,bs]
 rw[Nl]at hb;have LP:=mod_lt (x:=c / 8) (m:=n) (by omega);obtain⟨a,ha⟩:∃a:Nat,c / 8 % n=a:=⟨(c / 8 % n).toNat,by omega⟩;have Nx:a<bs.length:=by omega
 let nm:Nat->List Nat:=λi=>bs.set a (AS (c / 64+3*i));have JQ:∀i,(nm i).length=n:=λi=>by simp[nm,LO]
 obtain⟨ρ',e,v5,v6,rfl⟩:=mn (tg:=dI 5) (g:=m6) 6 (λi ρ=>∃v5 v6:OB,ρ=[sF (.int c),sF (.str kM),lT ((sg bs).map .str),sF (.int a),lT (((List.range i).map λi=>Txt.join ("" : Str) (sg (nm i))).map .str),v5,v6])
  [sF (.int c),sF (.str kM),lT ((sg bs).map .str),sF (.int a),lT [],none,none] ⟨none,none,rfl⟩ (by
   rintro i ρ hi ⟨v5,v6,rfl⟩;have es:((sg bs).map D.str).set a (.str ⟨#[AS (c / 64+3*i)]⟩)=(sg (nm i)).map .str:=by simp only[sg,nm,uP,List.map_set,Function.comp]
   refine⟨_,_,rfl,.inl (cK (ds:=(sg bs).map .str) (by simp) (aW _) (dM (F4 (n:=a) (ds:=(sg bs).map .str) (d:=.str ⟨#[AS (c / 64+3*i)]⟩) (b:=false) (b':=false) rfl ?_ rfl (by simpa [sg]using Nx) rfl) (mv (d:=.str (Txt.join ("" : Str) (sg (nm i)))) (b:=false) rfl ?_ rfl (dR (by simp;omega))))),some (.int i,false),some (.lst ((sg (nm i)).map .str),true),?_⟩
   ·exact dN (.str kM) (.int ((c / 64+3*i) % 26)) rfl (im (dN (.int (c / 64)) (.int (3*i)) (kh rfl (by decide) (by decide)) (dN (.int 3) (.int i) rfl rfl (ul _ (by omega))) rfl) (by decide)) (As _)
   ·rw[es];exact dN (.str "") (.lst ((sg (nm i)).map .str)) rfl rfl (CB _ (by rw[JQ];omega))
   ·rw[es,List.range_succ];simp)
 have t1:∀ρ:DL.Env,ρ[0]? = some (sF (.int c))->aT (f2 cI (f2 bc (f2 b9 (af 0) (fI 1664)) (fI 3)) (fI 1)) ρ=some (decide (c / 1664 % 3=1)):=λρ h=>Cq (dN (.int (c / 1664 % 3)) (.int 1) (im (kh (by simp[h]) (by decide) (by decide)) (by decide)) rfl l5);by_cases h3:c / 1664 % 3=1
 ·refine⟨Im,ao rfl (qw (.str kM) rfl rfl (cK hb (aW _) (qw (.int a) ?_ rfl (cK (ds:=[]) (by simp[sizeLine]) rfl (dM (ik (dQ (j:=6) (b:=false) rfl (by decide)) e) (bu ((t1 _ rfl).trans (by rw[decide_eq_true h3])) (aw (by simp[sizeLine,Im])))))))),by decide +kernel,by decide +kernel,by decide +kernel⟩;rw[←ha];refine dN (.int (c / 8)) (.int n) (kh rfl (by decide) (by decide)) ?_ (sw _ (by omega));refine oD [.lst ((sg bs).map .str)] (cA rfl rfl) ?_;rw[gN];simp[sg,LO]
 refine⟨(List.range 6).map λi=>Txt.join ("" : Str) (sg (nm i)),ao rfl (qw (.str kM) rfl rfl (cK hb (aW _) (qw (.int a) ?_ rfl (cK (ds:=[]) (by simp[sizeLine]) rfl (dM (ik (dQ (j:=6) (b:=false) rfl (by decide)) e) (am ((t1 _ rfl).trans (by rw[decide_eq_false h3])) (qa rfl))))))),by simp,?_,λz hz=>?_⟩
 ·rw[←ha];refine dN (.int (c / 8)) (.int n) (kh rfl (by decide) (by decide)) ?_ (sw _ (by omega));refine oD [.lst ((sg bs).map .str)] (cA rfl rfl) ?_;rw[gN];simp[sg,LO]
 ·refine List.pairwise_map.mpr (List.Pairwise.imp_of_mem ?_ (List.nodup_range (n:=6)));intro i j hi hj hij e;have e:=congrArg (λz:Str=>z.cps.toList) e;have e:nm i=nm j:=by
   have h1:∀i,nm i≠[]:=λi z=>by have:=JQ i;rw[z]at this;simp at this;omega
   simpa only[um (h1 i),um (h1 j)]using e
  have e:=congrArg (λl:List Nat=>l[a]?) e;simp only[nm,List.getElem?_set_self Nx,Option.some.injEq]at e;have:=CA e;have hi:=List.mem_range.mp hi;have hj:=List.mem_range.mp hj;omega
 ·obtain⟨i,_,rfl⟩:=vO hz;refine Il (by rw[JQ];omega) (by rw[JQ];omega) λx hx=>?_;rcases List.mem_or_eq_of_mem_set hx with h|h
  ·exact Lm x h
  ·rw[h];exact wd _
theorem lA {v:D}{z:Str}{n:Nat}(h:gu [v]=some (.str z,false))(ht:there v=true)(hy:qP v=false):bI (n+1) [.str "n",v]=some (.str z,false):=by
 refine ao rfl (am (dv (by decide +kernel)) (am (dv (by decide +kernel)) (am (aH (b:=false) (bq (x:=v) (y:=.non) (b1:=false) (b2:=false) rfl rfl ?_)) (am (dv (by decide +kernel)) (aw (ak (ds:=[v]) rfl h))))));cases v<;>simp[gm,there]at ht hy ⊢
theorem we {n:Nat}:bI (n+1) [.str "n",.non]=some (.str ⟨#[45]⟩,false):=by
 have e:("-" : PySem.Str)=⟨#[45]⟩:=by decide +kernel
 refine ao rfl (am (dv (by decide +kernel)) (am (dv (by decide +kernel)) (bu (aH (b:=false) (bq (x:=.non) (y:=.non) (b1:=false) (b2:=false) rfl rfl (by simp[gm]))) (aw (by rw[e];rfl)))))
def WP (c:Str)(t:Pt):Prop:=bI 6 [.str c,t.v]=some (.str (jw t.ws),false)
theorem F5 {p:Str}{n:Int}(h0:0<=n)(h9:n<=9999):WP ("n" : Str) ⟨p,.int n,[[nS n]]⟩:=by
 show bI 6 _=some (D.str (jw [nS n]),false);rw[gU];exact lA (gV h0 h9) rfl rfl
theorem uo {p z:Str}:WP ("n" : Str) ⟨p,.str z,[[z]]⟩:=by
 show bI 6 _=some (D.str (jw [z]),false);rw[gU];exact lA rfl rfl rfl
theorem wg {p:Str}{o:Option Str}:WP ("n" : Str) ⟨p,wD o,[[uS o]]⟩:=by
 show bI 6 _=some (D.str (jw [uS o]),false);rw[gU];cases o with
 |none=>exact we
 |some z=>exact lA rfl rfl rfl
theorem F6 {p:Str}{m:Nat}(h:m<=255):WP ("m" : Str) ⟨p,.int m,[[yp m]]⟩:=by
 show bI 6 _=some (D.str (jw [yp m]),false);rw[gU];exact bC (C8 C7 h)
theorem F7 {p:Str}{s:Int}{o:Option Int}(g:DA s o):WP ("s" : Str) ⟨p,.tup [.int s,uI o],[[nS s],[uN o]]⟩:=by
 show bI 6 _=some (D.str (jw [nS s,uN o]),false);have h0:=g.1;have h9:=g.2.1;have ho:∀t,o=some t->0<=t/\t<=9999:=λt e=>by have:=g.2.2 t e;omega
 have l1:=(gf h0 h9).2.2;have l2:=(DB ho).2.2;have hr:bI 5 [.str "n",uI o]=some (.str (uN o),false):=by
  cases o with
  |none=>exact we
  |some t=>exact lA (gV (ho t rfl).1 (ho t rfl).2) rfl rfl
 rw[ue];have e1:fA gu (ac (f2 cb (af 1) (fC (.int 0))) ai) [some (.str "s",false),some (.tup [.int s,uI o],false)]=some (.str (nS s),false):=ak (ds:=[.int s]) (by simp[qx]) (gV h0 h9);refine ao rfl (am (dv (by decide +kernel)) (bu (dv (by decide +kernel)) (aw (bq (x:=.str (nS s++⟨#[32]⟩)) (y:=.str (uN o)) (b1:=false) (b2:=false) (bq (x:=.str (nS s)) (y:=.str ⟨#[32]⟩) (b1:=false) (b2:=false) e1 (by rw[mG];rfl) ?_) (ak (ds:=[.str "n",uI o]) (a8 rfl (a8 (b:=false) (by simp[yo]) rfl)) hr) ?_))))
 ·have:(nS s).length+(⟨#[32]⟩:Str).length<=sizeLine:=cu (by rw[cw];omega);simp only[bp,if_pos this]
 ·have h2:(nS s++⟨#[32]⟩:Str).length=(nS s).length+1:=by
   show((nS s).cps++#[32]).size=_;simp[Str.length]
  have:(nS s++⟨#[32]⟩:Str).length+(uN o).length<=sizeLine:=cu (by omega);simp only[bp,if_pos this]
theorem F8 {p:Str}{ps:List Str}(h8:ps.length<=8)(h:∀p∈ps,gb p=true):WP ("p" : Str) ⟨p,.tup (ps.map .str),ps.map λx=>[x]⟩:=by
 show bI 6 _=some (D.str (jw (ps.map λx=>[x]).flatten),false);rw[iM];refine ao rfl (am (dv (by decide +kernel)) (am (dv (by decide +kernel)) (am (aH (b:=false) (bq (x:=.tup (ps.map .str)) (y:=.non) (b1:=false) (b2:=false) rfl rfl (by simp[gm]))) (bu (dv (by decide +kernel)) (aw (bq (x:=.str " ") (y:=.tup (ps.map .str)) (b1:=false) (b2:=false) rfl rfl ?_))))));rw[mG];have:=mH (l:=ps) (k:=20) λx hx=>(iB (h x hx)).1.2.2;have:(ps.map (·.length)).sum+ps.length*(⟨#[32]⟩:Str).length<=16777216:=by rw[cw];omega
 simp only[dg,pd,vJ,if_pos this];rfl
noncomputable def Az (kind:Str):D:=(kU [.inr ("root" : Str),.inr ("leave" : Str),.inr ("paper" : Str),.inr ("like" : Str)] [.str "nmnn",.str "nnnmsn",.str "nnmsnp",.str "nnmsnn"] (.inr kind:dL)).getD (.str "nnnnn")
def sA (t:Pt):List (List Str):=if t.p=("changes" : Str)then t.ch else [t.ws]
theorem A0 (t:Pt):(sA t).flatten=t.ws:=by
 unfold sA;split
 ·rfl
 ·simp
def Mr (kind:Str)(i:Nat):Prop:=kind=("like" : Str)/\i=6
structure WL (kind:Str)(L:List Pt):Prop where
 sg:∃sg:Str,Az kind=.str sg/\sg.length<=100/\∀i t,L[i]? = some t ->
  (Mr kind i/\t.p=("changes" : Str)/\∃cs,Ga cs/\t.v=.tup (cs.map gW)/\t.ch=cs.map iN)∨(¬Mr kind i/\t.p≠("changes" : Str)/\t.ws≠[]/\∃c,sg.cps.toList[i]? = some c/\WP ⟨#[c]⟩ t)
theorem wj {a0 a1 a2 a3 a5 a6:OB}:∀(cs:List (Int×Str))(us:List Str)(x y:OB),(∀c∈cs,(0<=c.1/\c.1<=7)/\gb c.2=true)->us.length+cs.length<=1000 ->
  ∃x' y',dO (qT [7,8]) kJ (cs.map gW) [a0,a1,a2,a3,lT (us.map .str),a5,a6,x,y]=some (.nx [a0,a1,a2,a3,lT ((us++(cs.map iN).map jw).map .str),a5,a6,x',y'])
 |[],us,x,y,_,_=>⟨x,y,by simp[dO]⟩
 |c::cs,us,x,y,h,hl=>by
  obtain⟨⟨h1,h2⟩,h3⟩:=h c (by simp);rw[vE]at hl;obtain⟨x',y',e⟩:=wj cs (us++[jw (iN c)]) (some (.int c.1,false)) (some (.str c.2,false)) (λd hd=>h d (mZ _ hd)) (by simp;omega);refine⟨x',y',?_⟩;have l1:=(gf h1 (by omega:c.1<=9999)).2.2;have l2:=(iB h3).1.2.2;have hb:kJ [a0,a1,a2,a3,lT (us.map .str),a5,a6,some (.int c.1,false),some (.str c.2,false)]=some (.nx [a0,a1,a2,a3,lT ((us++[jw (iN c)]).map .str),a5,a6,some (.int c.1,false),some (.str c.2,false)]):=by
   have:=mv (ρ:=[a0,a1,a2,a3,lT (us.map .str),a5,a6,some (.int c.1,false),some (.str c.2,false)]) (i:=4) (f:=f2 bp (f2 bp (fA gu (ac (af 7) ai)) (fC (.str " "))) (af 8)) (d:=.str (jw (iN c))) (b:=false) (ds:=us.map .str) rfl ?_ rfl (dR (by simp;omega))
   ·exact this.trans (by rw[uX];rfl)
   ·refine bq (x:=.str (nS c.1++⟨#[32]⟩)) (y:=.str c.2) (b1:=false) (b2:=false) (bq (x:=.str (nS c.1)) (y:=.str ⟨#[32]⟩) (b1:=false) (b2:=false) (ak (ds:=[.int c.1]) rfl (gV h1 (by omega))) (by rw[mG];rfl) ?_) rfl ?_
    ·have:(nS c.1).length+(⟨#[32]⟩:Str).length<=sizeLine:=cu (by rw[cw];omega);simp only[bp,if_pos this]
    ·have h2:(nS c.1++⟨#[32]⟩:Str).length=(nS c.1).length+1:=by
      show((nS c.1).cps++#[32]).size=_;simp[Str.length]
     have:(nS c.1++⟨#[32]⟩:Str).length+c.2.length<=sizeLine:=cu (by omega);simp only[bp,if_pos this,iN,ue]
  have sJ:qT [7,8] (gW c) [a0,a1,a2,a3,lT (us.map .str),a5,a6,x,y]=some [a0,a1,a2,a3,lT (us.map .str),a5,a6,some (.int c.1,false),some (.str c.2,false)]:=by
   simp[gW,dr]
  rw[uZ,dO,sJ,vJ,hb];dsimp only;rw[e];simp
noncomputable def qj (h:Int)(kind:Str)(L:List Pt):List Str:=[(Str.ofString (toString h)),kind]++(L.map λt=>(sA t).map jw).flatten
theorem sC (h:Int)(kind:Str)(L:List Pt)(t:Pt):qj h kind (L++[t])=qj h kind L++(sA t).map jw:=by simp[qj]
theorem CC {t:Pt}(h:PW t):(sA t).length<=8:=by
 unfold sA;split
 ·exact h.few.1
 ·simp
theorem qk (h:Int)(kind:Str):∀ {L:List Pt},(∀t∈L,PW t)->(qj h kind L).length<=2+8*L.length
 |[],_=>by simp[qj]
 |t::L,hL=>by
  have:=qk h kind (L:=L) λu hu=>hL u (mZ _ hu);have:=CC (hL t (by simp));simp[qj]at *;omega
theorem xS {f g:FE}{ρ:DL.Env}{i j:Int}{b1 b2:Bool}(e1:f ρ=some (.int i,b1))(e2:g ρ=some (.int j,b2))(hc : -1000<=i/\i<=1000/\-1000<=j/\j<=1000):lx f g ρ=some (cG i (j - i).toNat):=by
 simp only[lx,e1,e2,vJ];exact if_pos hc
theorem A1 {zs:List Str}{k:Nat}{h:Int}{kind:Str}{L:List Pt}(g:RL zs k h kind L)(w:WL kind L):i7 [row h kind (L.map (·.v))]=some (.str (jw (mI h kind L)),false):=by
 obtain⟨sg,P7,Ny,hw⟩:=w.sg;have bD:=g.len;have Ba:=g.pw;have JJ:((.str kind::L.map (·.v):List D)).length=L.length+1:=by simp
 let dict:D:=.dk [.inr ("root" : Str),.inr ("leave" : Str),.inr ("paper" : Str),.inr ("like" : Str)] [.str "nmnn",.str "nnnmsn",.str "nnmsnp",.str "nnmsnn"];let E:List Str->OB->OB->OB->DL.Env:=λus x y z=>[sF (row h kind (L.map (·.v))),sF (.int h),sF (.tup (.str kind::L.map (·.v))),some (dict,true),lT (us.map .str),sF (.str sg),x,y,z];obtain⟨ρ',e,x,y,z,rfl⟩:=jI (tg:=dI 6) (g:=oS) (λi ρ=>∃x y z,ρ=E (qj h kind (L.take i)) x y z) (cG 1 L.length) (E (qj h kind []) none none none) ⟨none,none,none,by simp⟩ (by
  rintro i d ρ hd ⟨x,y,z,rfl⟩;unfold cG at hd;rw[vB]at hd;obtain⟨j,hj,rfl⟩:=oY hd;have hi:i<L.length:=by have:=(vV hj).1;simpa using this
  rw[List.getElem?_range hi]at hj;cases hj
  have ht:L[i]? = some L[i]:=vU hi;have hp:=Ba L[i] (List.getElem_mem hi);have P8:=qk h kind (L:=L.take i) λt ht=>Ba t (List.mem_of_mem_take ht);rw[List.length_take]at P8;have Iz:L.take (i+1)=L.take i++[L[i]]:=by rw[List.take_succ,ht];rfl
  have JR:∀ρ:DL.Env,ρ[2]? = some (sF (.tup (.str kind::L.map (·.v))))->f2 cb (af 2) (fC (.int 0)) ρ=some (.str kind,false):=λρ h=>by simp[h,qx]
  have LP:nn (.str kind::L.map (·.v)) (1+(i:Int))=some L[i].v:=by
   have:=js (xs:=(.str kind:D)::L.map (·.v)) (j:=i+1) (by simp;omega);rw[show(1+(i:Int))=((i+1:Nat):Int) by omega,this];simp
  have Nz:iW (aT (f2 cI (f2 cb (af 2) (fC (.int 0))) (fC (.str "like")))) (aT (f2 cI (af 6) (fC (.int 7)))) (E (qj h kind (L.take i)) (sF (.int (1+(i:Int)))) y z)=some (decide (kind=("like" : Str)) && decide (1+(i:Int)=7)) :=
   qc (aH (b:=false) (bq (x:=.str kind) (y:=.str "like") (b1:=false) (b2:=false) (JR _ rfl) rfl (Cs _ _))) λ_=>aH (b:=false) (bq (x:=.int (1+(i:Int))) (y:=.int 7) (b1:=false) (b2:=false) rfl rfl l5)
  rcases hw i _ ht with⟨⟨hk,h6⟩,Jm,cs,gc,hv,wn⟩|⟨hn,Jm,yg,c,hc,P9⟩
  ·subst h6;have gl:=gc.len;obtain⟨y',z',e⟩:=wj (a0:=sF (row h kind (L.map (·.v)))) (a1:=sF (.int h)) (a2:=sF (.tup (.str kind::L.map (·.v)))) (a3:=some (dict,true)) (a5:=sF (.str sg)) (a6:=sF (.int (1+((6:Nat):Int)))) cs (qj h kind (L.take 6)) y z gc.one (by omega);have LQ:(sA L[6]).map jw=(cs.map iN).map jw:=by unfold sA;rw[if_pos Jm,wn]
   refine⟨_,E (qj h kind (L.take (6+1))) (sF (.int (1+((6:Nat):Int)))) y' z',rfl,.inl (pZ (Nz.trans (by rw[decide_eq_true hk];rfl)) ?_),_,y',z',rfl⟩;rw[Iz,sC,LQ];refine jK (ds:=cs.map gW) ?_ e;show Option.bind (f2 cb (af 2) (fC (.int 7)) _) _=_;have h7:nn (.str kind::L.map (·.v)) 7=some (.tup (cs.map gW)):=hv ▸ LP;simp[j7,E,h7,unown1]
  ·have LQ:(sA L[i]).map jw=[jw L[i].ws]:=by unfold sA;rw[if_neg Jm];rfl
   have hq:(decide (kind=("like" : Str)) && decide (1+(i:Int)=7))=false:=by
    by_cases hk:kind=("like" : Str)
    ·have:¬(1+(i:Int)=7):=λe=>hn ⟨hk,by omega⟩;rw[decide_eq_false this,Bool.and_false]
    ·rw[decide_eq_false hk,Bool.false_and]
   have Nu:i<sg.cps.size:=by have:=(vV hc).1;simpa using this
   refine⟨_,E (qj h kind (L.take (i+1))) (sF (.int (1+(i:Int)))) y z,rfl,.inl (tT (Nz.trans (by rw[hq])) ?_),_,y,z,rfl⟩;rw[Iz,sC,LQ];have hx:=lK (z:=sg) (i:=(1+(i:Int)) - 1) (by omega) (by omega) (by omega);have PB:sg.cps.toList.getD ((1+(i:Int)) - 1).toNat 0=c:=by
    rw[show((1+(i:Int)) - 1).toNat=i by omega,List.getD_eq_getElem?_getD,hc];rfl
   rw[PB]at hx;have:=mv (ρ:=E (qj h kind (L.take i)) (sF (.int (1+(i:Int)))) y z) (i:=4) (f:=fA (bI 6) (ac (f2 cb (af 5) (f2 yV (af 6) (fC (.int 1)))) (ac (f2 cb (af 2) (af 6)) ai))) (d:=.str (jw L[i].ws)) (b:=false) (ds:=(qj h kind (L.take i)).map .str) rfl (ak (ds:=[.str ⟨#[c]⟩,L[i].v]) (a8 (b:=false) (bq (x:=.str sg) (y:=.int ((1+(i:Int)) - 1)) (b1:=false) (b2:=false) rfl (bq (x:=.int (1+(i:Int))) (y:=.int 1) (b1:=false) (b2:=false) rfl rfl (by simp)) hx) (a8 (b:=false) (bq (x:=.tup (.str kind::L.map (·.v))) (y:=.int (1+(i:Int))) (b1:=false) (b2:=false) rfl rfl (by simp[LP])) rfl)) P9) rfl (dR (by simp;omega));exact this.trans (by show _=some (Res.nx [_,_,_,_,lT ((qj h kind (L.take i)++[jw L[i].ws]).map .str),_,_,_,_]);rw[uX];rfl))
 rw[show(cG 1 L.length).length=L.length by simp[cG],List.take_length]at e;have hf:aS (L.map (·.v))=true:=bP (by intro d hd;obtain⟨t,ht,rfl⟩:=vO hd;exact(Ba t ht).flat.1);have e1:vo [1,2] (af 0) [sF (row h kind (L.map (·.v))),none,none,none,none,none,none,none,none]=some (.nx [sF (row h kind (L.map (·.v))),sF (.int h),sF (.tup (.str kind::L.map (·.v))),none,none,none,none,none,none]):=by
  simp[row,dr,hf]
 have e2:∀ρ:DL.Env,rE 3 [(("root" : Str),(fC (.str "nmnn"))),(("leave" : Str),(fC (.str "nnnmsn"))),(("paper" : Str),(fC (.str "nnmsnp"))),(("like" : Str),(fC (.str "nnmsnn")))] ρ=some (.nx (ρ.set 3 (some (dict,true)))):=λρ=>by
  have hc:([("root" : Str),("leave" : Str),("paper" : Str),("like" : Str)]:List Str).Nodup/\(4:Nat)<=15:=⟨by decide +kernel,by decide⟩;unfold rE;exact if_pos (e:=(none:Option Res)) hc
 have JR:∀ρ:DL.Env,ρ[2]? = some (sF (.tup (.str kind::L.map (·.v))))->f2 cb (af 2) (fC (.int 0)) ρ=some (.str kind,false):=λρ h=>by simp[h,qx]
 refine ao rfl (dM e1 (dM (e2 _) (cK (ds:=[.str (toString h),.str kind]) ?_ (by simp) (gM (d:=.str sg) (b:=false) ?_ rfl (dM (ik (ds:=cG 1 L.length) ?_ e) (aw ?_))))))
 ·exact ak (ds:=[.str (toString h),.str kind]) (a8 (b:=false) (ak (ds:=[.int h]) rfl (gV g.h0 g.h1)) (a8 (JR _ rfl) rfl)) (by simp[sizeLine])
 ·have:Az kind=_:=P7;rw[←this];have hk:=JR [sF (row h kind (L.map (·.v))),sF (.int h),sF (.tup (.str kind::L.map (·.v))),some (dict,true),lT [.str (toString h),.str kind],none,none,none,none] rfl;show Option.bind (some (dict,false)) (λx=>Option.bind (f2 cb (af 2) (fC (.int 0)) [sF (row h kind (L.map (·.v))),sF (.int h),sF (.tup (.str kind::L.map (·.v))),some (dict,true),lT [.str (toString h),.str kind],none,none,none,none]) _)=_;rw[hk];rfl
 ·have hl:fA bQ (ac (af 2) ai) [sF (row h kind (L.map (·.v))),sF (.int h),sF (.tup (.str kind::L.map (·.v))),some (dict,true),lT [.str (toString h),.str kind],sF (.str sg),none,none,none]=some (.int ((L.length+1:Nat):Int),false):=ak (ds:=[.tup (.str kind::L.map (·.v))]) rfl (by simp);have hc : -1000<=(1:Int)/\(1:Int)<=1000/\-1000<=((L.length+1:Nat):Int)/\((L.length+1:Nat):Int)<=1000:=by omega
  have:=xS (f:=fC (.int 1)) (b1:=false) (b2:=false) rfl hl hc;rw[show((((L.length+1:Nat):Int) - 1).toNat)=L.length by omega]at this;exact this
 ·have AL:∀x∈(L.map sA).flatten,x≠[]/\x.length<=16/\∀w∈x,Wd w:=by
   intro x hx;obtain⟨l,hl,hx⟩:=List.mem_flatten.mp hx;obtain⟨t,ht,rfl⟩:=vO hl;have hp:=Ba t ht;have PD:∀w∈t.ws,Wd w:=λw hw=>D9 (L:=[t]) (λu hu=>by simp at hu;exact hu ▸ hp) w (by simpa [gT]using hw);obtain⟨i,hi⟩:=List.mem_iff_getElem?.mp ht;unfold sA at hx;split at hx
   ·exact⟨hp.ne x hx,by have:=(hp.few.2 x hx).1;omega,(hp.few.2 x hx).2⟩
   ·rename_i Jm;rw[uU hx];refine⟨?_,?_,PD⟩
    ·rcases hw i t hi with⟨_,hc,_⟩|⟨_,_,yg,_⟩
     ·exact absurd hc Jm
     ·exact yg
    ·have:=qh (L:=[t]) (λu hu=>by simp at hu;exact hu ▸ hp);simpa [gT]using this
  have hj:jw (mI h kind L)=Txt.join ⟨#[32]⟩ (qj h kind L):=by
   have:=wa (wss:=[[(Str.ofString (toString h))],[kind]]++(L.map sA).flatten) (by
    intro x hx;rcases List.mem_append.mp hx with hx|hx
    ·rcases vP hx with rfl|hx
     ·simp
     ·rw[uU hx];simp
    ·exact(AL x hx).1)
   have e3:([[(Str.ofString (toString h))],[kind]]++(L.map sA).flatten).flatten=mI h kind L:=by
    rw[List.flatten_append];have:∀M:List Pt,(M.map sA).flatten.flatten=gT M:=by
     intro M;induction M with
     |nil=>rfl
     |cons t M ih=>rw[uZ,List.flatten_cons,List.flatten_append,A0,ih,iA]
    rw[this];rfl
   have e4:([[(Str.ofString (toString h))],[kind]]++(L.map sA).flatten).map jw=qj h kind L:=by
    unfold qj;rw[uX,List.map_flatten,uP];congr 1
   rw[e3,e4]at this;exact this.symm
  rw[hj];refine bq (x:=.str " ") (y:=.lst ((qj h kind L).map .str)) (b1:=false) (b2:=false) rfl rfl ?_;rw[mG];refine qg (k:=400) (by omega) ?_ (by have:=qk h kind (L:=L) Ba;omega);intro u hu;rcases List.mem_append.mp hu with hu|hu
  ·rcases vP hu with rfl|hu
   ·exact vR (gf g.h0 g.h1).2.2 (by omega)
   ·rw[uU hu];exact vR g.kl (by omega)
  ·obtain⟨l,hl,hu⟩:=List.mem_flatten.mp hu;obtain⟨t,ht,rfl⟩:=vO hl;obtain⟨x,hx,rfl⟩:=vO hu;have:=AL x (List.mem_flatten.mpr ⟨sA t,List.mem_map.mpr ⟨t,ht,rfl⟩,hx⟩);refine vR (jL _ x) ?_;have h1:=mH (l:=x) (k:=20) λw hw=>(this.2.2 w hw).2.2;rw[cw];omega
noncomputable def xT:Nat->D->Bool
 |0,_=>false
 |n+1,.tup ds=>decide (ds.length<=1000) && ds.all (xT n)
 |_+1,.int _=>true
 |_+1,.str _=>true
 |_+1,.non=>true
 |_+1,_=>false
theorem wk:∀(n:Nat)(d:D),xT n d=true->g6 n [d,d]=some (.bl true,false)
 |0,d,h=>by cases d<;>cases h
 |n+1,.int i,_=>by
  refine ao rfl (am (by simp) (am (by simp[gm]) (bu (by simp) (aw ?_))));exact(ga (p:=true) (q:=true) (b1:=false) (by simp) λ_=>(ga (p:=true) (q:=true) (b1:=false) (v0 (p:=false) (b1:=false) (by simp)) λ_=>by simp).trans rfl).trans rfl
 |n+1,.str z,_=>by
  refine ao rfl (am (by simp) (am (by simp[gm]) (am (by simp) (aw ?_))));exact(ga (p:=true) (q:=true) (b1:=false) (by simp) λ_=>by simp).trans rfl
 |n+1,.non,_=>by
  exact ao rfl (am (by simp) (bu (by simp[gm]) (aw (by simp[gm]))))
 |n+1,.tup ds,h=>by
  have h:(decide (ds.length<=1000) && ds.all (xT n))=true:=h;rw[vD,List.all_eq_true]at h;have hl:=of_decide_eq_true h.1;refine ao rfl (zX (pZ (by simp) (am (bf (p:=false) (q:=false) (by simp) λ_=>by simp) (aw ?_))));have hc:=rL (fi:=dc (fA bQ (ac (af 1) ai))) (nT:=1) (cap:=[0,1]) (tg:=dI 0) (c:=c7 (aT (fA (g6 n) (ac (f2 cb (af 1) (af 0)) (ac (f2 cb (af 2) (af 0)) ai))))) (fe:=af 0) (ρ:=[some (.tup ds,false),some (.tup ds,false)]) (List.range ds.length) (λ(k:Nat)=>.int k) (λ_=>false) (λ(k:Nat)=>.int k)
   (by rw[dQ (j:=ds.length) (b:=false) (by simp) hl,kE,uP];rfl) (by simp;omega) λk hk=>by
    have hk:=List.mem_range.mp hk;have hx:∀ρ:DL.Env,∀i,ρ[i]? = some (sF (.tup ds))->ρ[0]? = some (sF (.int k))->f2 cb (af i) (af 0) ρ=some (ds[k],false):=λρ i h1 h2=>by
     have:=js (xs:=ds) (j:=k) hk;simp[h1,h2,this]
    exact⟨_,rfl,cL (p:=true) (aH (b:=false) (ak (ds:=[ds[k],ds[k]]) (a8 (hx _ 1 rfl rfl) (a8 (hx _ 2 rfl rfl) rfl)) (wk n ds[k] (h.2 _ (List.getElem_mem hk))))),λz=>by cases z⟩
  rw[show(List.range ds.length).filter (λ_=>false)=[]from List.filter_eq_nil_iff.mpr (by simp)]at hc;exact bq (x:=.int 0) (y:=.int 0) (b1:=false) (b2:=false) (ak (ds:=[.lst []]) (a8 (b:=true) hc rfl) rfl) rfl (by simp)
 |n+1,.bl _,h=>by cases h
 |n+1,.lst _,h=>by cases h
 |n+1,.ty _,h=>by cases h
 |n+1,.dk _ _,h=>by cases h
structure PG (zs:List Str)(c:Str)(t:Pt)(ss:List Str):Prop where
 pw:PW t
 wp:WP c t
 nc:t.p≠("changes" : Str)
 ne:t.ws≠[]
 dep:xT 3 t.v=true
 pk:(if(fH t.p && there t.v)=true then [t.v]else [])=ss.map D.str
 ms:∀s∈ss,s∈zs
inductive qv (zs:List Str):List Str->List Pt->List Str->Prop
 |nil:qv zs [] [] []
 |cons {c:Str}{t:Pt}{ss:List Str}{cs:List Str}{L:List Pt}{sL:List Str}(h:PG zs c t ss) (r:qv zs cs L sL):qv zs (c::cs) (t::L) (ss++sL)
theorem qv.get {zs:List Str}:∀ {cs:List Str}{L:List Pt}{ss:List Str},qv zs cs L ss->∀ {i:Nat}{t:Pt},L[i]? = some t->∃c sL,cs[i]? = some c/\PG zs c t sL
 |_,_,_,.nil,i,t,h=>by cases h
 |_,_,_,.cons g r,0,t,h=>by cases h;exact⟨_,_,rfl,g⟩
 |_,_,_,.cons g r,i+1,t,h=>by
  obtain⟨c,sL,e,g'⟩:=r.get (i:=i) (t:=t) (by simpa using h);exact⟨c,sL,by simpa using e,g'⟩
theorem qv.all {zs cs:List Str}{L:List Pt}{ss:List Str}(g:qv zs cs L ss){t:Pt}(h:t∈L):∃c sL,PG zs c t sL:=by
 obtain⟨i,hi⟩:=List.mem_iff_getElem?.mp h;obtain⟨c,sL,_,g'⟩:=g.get hi;exact⟨c,sL,g'⟩
theorem pq (p:Str)(v:D)(r:List (Str×D)):pick ((p,v)::r)=(if(fH p && there v)=true then [v]else [])++pick r:=by
 unfold pick;rw[List.filter_cons];dsimp only;split<;>rfl
theorem qv.pick {zs:List Str}:∀ {cs:List Str}{L:List Pt}{ss:List Str},qv zs cs L ss->pick ((L.map (·.p)).zip (L.map (·.v)))=ss.map .str
 |_,_,_,.nil=>rfl
 |_,_,_,.cons g r=>by
  rw[uZ,uZ,List.zip_cons_cons,pq,g.pk,r.pick,uX]
theorem qv.mem {zs:List Str}:∀ {cs:List Str}{L:List Pt}{ss:List Str},qv zs cs L ss->∀s∈ss,s∈zs
 |_,_,_,.nil,s,h=>by cases h
 |_,_,_,.cons g r,s,h=>by
  rcases List.mem_append.mp h with h|h
  ·exact g.ms s h
  ·exact r.mem s h
def pN (p:Str)(n:Int):Pt:=⟨p,.int n,[[nS n]]⟩
noncomputable def pT (p z:Str):Pt:=⟨p,.str z,[[z]]⟩
def pM (m:Nat):Pt:=⟨("matters" : Str),.int m,[[yp m]]⟩
def pS (s:Int)(o:Option Int):Pt:=⟨("stretch" : Str),.tup [.int s,uI o],[[nS s],[uN o]]⟩
def pW (o:Option Str):Pt:=⟨("whom" : Str),wD o,[[uS o]]⟩
noncomputable def pP (ps:List Str):Pt:=⟨("pieces" : Str),.tup (ps.map .str),ps.map λx=>[x]⟩
noncomputable def pC (cs:List (Int×Str)):Pt:=⟨("changes" : Str),.tup (cs.map gW),cs.map iN⟩
section
variable {zs:List Str}
theorem xU {p:Str}{v:D}(h:fH p=false):(if(fH p && there v)=true then [v]else [])=([]:List Str).map D.str:=by rw[h];rfl
theorem ql {p:Str}{n:Int}(h0:0<=n)(h9:n<=9999)(hp:bg [.str p,.int n]=some (.bl true,false))(yi:sO (.str p) aV=some (.bl true,false))(hx:fH p=false:=by decide +kernel)
  (h1:decide (p=("matters" : Str))=false:=by decide +kernel) (h2:decide (p=("pieces" : Str))=false:=by decide +kernel) (h3:decide (p=("stretch" : Str))=false:=by decide +kernel) (h4:decide (p=("whom" : Str))=false:=by decide +kernel) (h5:decide (p=("changes" : Str))=false:=by decide +kernel):PG zs ("n" : Str) (pN p n) [] :=
 ⟨Ft h0 h9 hp yi h1 h2 h3 h4 h5,F5 h0 h9,of_decide_eq_false h5,by simp[pN,Pt.ws],rfl,xU hx,by simp⟩
theorem iC {n:Int}(h0:0<=n)(h9:n<=9999):PG zs ("n" : Str) (pN ("day" : Str) n) []:=ql h0 h9 (Ab (by decide +kernel) (iK h0 h9)) (bC (by decide +kernel))
theorem A2 {n:Int}(h0:0<=n)(h9:n<=9999):PG zs ("n" : Str) (pN ("since" : Str) n) []:=ql h0 h9 (Ab (by decide +kernel) (iK h0 h9)) (bC (by decide +kernel))
theorem mN {n:Int}(h0:0<=n)(h9:n<=9):PG zs ("n" : Str) (pN ("further" : Str) n) []:=ql h0 (by omega) (ua h0 h9) (bC (by decide +kernel))
theorem DD {n:Int}(h0:0<=n)(h9:n<=59):PG zs ("n" : Str) (pN ("of" : Str) n) []:=ql h0 (by omega) (Ij h0 h9) (bC (by decide +kernel))
theorem DE {p z:Str}(hz:z∈zs)(nm:Nm6 zs)(h0:(decide (p=("day" : Str)) || decide (p=("since" : Str)))=false)(hp:(decide (p=("office" : Str)) || (decide (p=("by" : Str)) || decide (p=("person" : Str))))=true)(yi:sO (.str p) aV=some (.bl false,false))(hx:fH p=true)
  (h1:decide (p=("matters" : Str))=false:=by decide +kernel) (h2:decide (p=("pieces" : Str))=false:=by decide +kernel) (h3:decide (p=("stretch" : Str))=false:=by decide +kernel) (h4:decide (p=("whom" : Str))=false:=by decide +kernel) (h5:decide (p=("changes" : Str))=false:=by decide +kernel):PG zs ("n" : Str) (pT p z) [z] :=
 ⟨uf (iB (nm.nm z hz)).1 (vM h0 hp (ka (nm.nm z hz))) yi h1 h2 h3 h4 h5,uo,of_decide_eq_false h5,by simp[pT,Pt.ws],rfl,by simp[pT,hx],by simpa using hz⟩
theorem pr {z:Str}(hz:z∈zs)(nm:Nm6 zs):PG zs ("n" : Str) (pT ("by" : Str) z) [z]:=DE hz nm (by decide +kernel) (by decide +kernel) (bC (by decide +kernel)) (by decide +kernel)
theorem sD {z:Str}(hz:z∈zs)(nm:Nm6 zs):PG zs ("n" : Str) (pT ("person" : Str) z) [z]:=DE hz nm (by decide +kernel) (by decide +kernel) (bC (by decide +kernel)) (by decide +kernel)
theorem qm {z:Str}(hz:z∈zs)(nm:Nm6 zs):PG zs ("n" : Str) (pT ("office" : Str) z) [] :=
 ⟨uf (iB (nm.nm z hz)).1 (vM (by decide +kernel) (by decide +kernel) (ka (nm.nm z hz))) (bC (by decide +kernel)),uo,(show("office" : Str)≠("changes" : Str) by decide +kernel),by simp[pT,Pt.ws],rfl,xU (p:=("office" : Str)) (by decide +kernel),by simp⟩
theorem CD {z:Str}(hz:z∈[("open" : Str),("first" : Str),("last" : Str)]):PG zs ("n" : Str) (pT ("rule" : Str) z) []:=by
 have h1:bg [.str "rule",.str z]=some (.bl true,false):=by
  simp at hz;rcases hz with rfl|rfl|rfl<;>exact bC (by decide +kernel)
 have h2:gb z=true:=by
  simp at hz;rcases hz with rfl|rfl|rfl<;>decide +kernel
 exact⟨uf (iB h2).1 h1 (bC (by decide +kernel)),uo,(show("rule" : Str)≠("changes" : Str) by decide +kernel),by simp[pT,Pt.ws],rfl,xU (p:=("rule" : Str)) (by decide +kernel),by simp⟩
theorem qo {m:Nat}(h1:1<=m)(h:m<=255):PG zs ("m" : Str) (pM m) []:=⟨uk h1 h,F6 h,(show("matters" : Str)≠("changes" : Str) by decide +kernel),by simp[pM,Pt.ws],rfl,xU (p:=("matters" : Str)) (by decide +kernel),by simp⟩
theorem uq {s:Int}{o:Option Int}(g:DA s o):PG zs ("s" : Str) (pS s o) []:=⟨uh g,F7 g,(show("stretch" : Str)≠("changes" : Str) by decide +kernel),by simp[pS,Pt.ws],by cases o<;>rfl,xU (p:=("stretch" : Str)) (by decide +kernel),by simp⟩
theorem DF {o:Option Str}(nm:Nm6 zs)(h:∀z,o=some z->z∈zs):∃ss,ss.length<=1/\PG zs ("n" : Str) (pW o) ss:=by
 cases o with
 |none=>exact⟨[],by simp,wb (by simp),wg,(show("whom" : Str)≠("changes" : Str) by decide +kernel),by simp[pW,Pt.ws],rfl,by simp[pW,wD],by simp⟩
 |some z=>exact⟨[z],by simp,wb (by simp;exact nm.nm z (h z rfl)),wg,(show("whom" : Str)≠("changes" : Str) by decide +kernel),by simp[pW,Pt.ws],rfl,by
   have:fH ("whom" : Str)=true:=by decide +kernel
   simp[pW,wD,this],by simpa using h z rfl⟩
theorem CF (n:Nat)(ps:List Str)(h:ps.length<=1000):xT (n+2) (.tup (ps.map .str))=true:=by
 show(decide _ && List.all _ _)=true;rw[vD,List.all_eq_true];refine⟨decide_eq_true (by simpa using h),λd hd=>?_⟩;obtain⟨z,_,rfl⟩:=vO hd;rfl
theorem F9 {ps:List Str}(h1:1<=ps.length)(h8:ps.length<=8)(h:∀p∈ps,gb p=true):PG zs ("p" : Str) (pP ps) [] :=
 ⟨xO h1 h8 h,F8 h8 h,(show("pieces" : Str)≠("changes" : Str) by decide +kernel),by
  show(ps.map λx=>[x]).flatten≠[];rw[iM];intro e;rw[e]at h1;simp at h1,CF 1 ps (by omega),xU (p:=("pieces" : Str)) (by decide +kernel),by simp⟩
end
structure GX (zs:List Str)(k:Nat)(day:Int)(kind:Str)(L:List Pt):Prop where
 rl:∀h:Int,day<=h->0<=h->h<=9999->RL zs k h kind L
 wl:WL kind L
 dep:∀t∈L,xT 3 t.v=true
theorem FC {kind sg:Str}(h:AR (some (Az kind,false)) (.str sg) false=true):Az kind=.str sg:=by
 have:=bC h;injection this with this;exact(Prod.mk.injEq .. ▸ this).1
theorem wm:∀ {L:List Pt}{parts:List Str},L.map (·.p)=parts->(parts.dropLast.all λp=>!(decide (p=("pieces" : Str)) || decide (p=("changes" : Str))))=true->ge L
 |[],_,_,_=>trivial
 |[_],_,_,_=>trivial
 |t::u::L,_,rfl,h=>by
  rw[uZ,uZ,List.dropLast_cons₂,List.all_cons,vD]at h;refine⟨by have:=h.1;unfold Pt.tail;simpa using this,wm (L:=u::L) rfl h.2⟩
theorem CG {zs:List Str}{k:Nat}{day:Int}{kind sg:Str}{L L0:List Pt}{gq ss parts:List Str}(g:qv zs gq L0 ss)(hL:(kind≠("like" : Str)/\L=L0)∨(kind=("like" : Str)/\L0.length=6/\∃cs,Ga cs/\L=L0++[pC cs]))(h2:ss.length<=2)(hp:L.map (·.p)=parts)
  (Db:∀h:Int,day<=h->0<=h->(kind=("root" : Str)/\(k=0∨k=1)/\∃r,L.map (·.v)=.str (off zs k)::r)∨(kind≠("root" : Str)/\(∃(day:Int)(r:List D),L.map (·.v)=.int day::r/\day<=h/\0<=day/\(kind=("chosen" : Str)->∃a b c s,r=[a,b,c,.int s]/\day<=s))/\mj aO (.str kind) (.str "day")=some (.int 0,false)))
  (hc:AR (fw aO (.str kind)) (.tup (parts.map .str)) false=true:=by decide +kernel) (G2:(parts.dropLast.all λp=>!(decide (p=("pieces" : Str)) || decide (p=("changes" : Str))))=true:=by decide +kernel) (PF:decide (parts.length<=8)=true:=by decide +kernel)
  (hk:gb kind=true:=by decide +kernel) (hs:AR (some (Az kind,false)) (.str sg) false=true:=by decide +kernel) (Ny:decide (sg.length<=100)=true:=by decide +kernel) (LR:decide ((sg.cps.toList.map λc=>(⟨#[c]⟩:Str)).take gq.length=gq)=true:=by decide +kernel):GX zs k day kind L:=by
 have bD:L.length<=8:=by have:=congrArg List.length hp;rw[vI]at this;have:=of_decide_eq_true PF;omega
 have Jn:fw aO (.str kind)=some (.tup ((L.map (·.p)).map .str),false):=by rw[hp];exact bC hc
 have PH:kind.length<=8:=by
  unfold gb at hk;rw[vD,vD]at hk;exact of_decide_eq_true hk.1.2
 have Ba:∀t∈L,PW t/\xT 3 t.v=true:=by
  rcases hL with⟨_,rfl⟩|⟨_,_,cs,gc,rfl⟩
  ·intro t ht;obtain⟨c,s,q⟩:=g.all ht;exact⟨q.pw,q.dep⟩
  ·intro t ht;rcases List.mem_append.mp ht with ht|ht
   ·obtain⟨c,s,q⟩:=g.all ht;exact⟨q.pw,q.dep⟩
   ·rw[uU ht];refine⟨uj gc,?_⟩;show(decide _ && List.all _ _)=true;rw[vD,List.all_eq_true];refine⟨decide_eq_true (by rw[vI];have:=gc.len;omega),λd hd=>?_⟩;obtain⟨z,_,rfl⟩:=vO hd;rfl
 have Jo:pick ((L.map (·.p)).zip (L.map (·.v)))=ss.map .str:=by
  rcases hL with⟨_,rfl⟩|⟨_,_,cs,gc,rfl⟩
  ·exact g.pick
  ·have hx:∀a b:List (Str×D),pick (a++b)=pick a++pick b:=λa b=>by unfold pick;rw[List.filter_append,uX]
   rw[uX,uX,List.zip_append (by simp),hx,g.pick];have:pick (([pC cs].map (·.p)).zip ([pC cs].map (·.v)))=[]:=by
    show pick [(("changes" : Str),.tup (cs.map gW))]=[];rw[pq,show fH ("changes" : Str)=false by decide +kernel];rfl
   rw[this,uQ]
 refine⟨λh hd h0 h9=>⟨λt ht=>(Ba t ht).1,wm hp G2,bD,Jn,⟨⟨L.map (·.p),ss,Jn,by simp,?_,Jo,h2,g.mem⟩,by simp;omega,?_,Db h hd h0⟩,h0,h9,(iB hk).1,PH⟩,⟨sg,FC hs,of_decide_eq_true Ny,?_⟩,λt ht=>(Ba t ht).2⟩
 ·intro x hx;rw[List.zip_map']at hx;obtain⟨t,ht,rfl⟩:=vO hx;exact(Ba t ht).1.part
 ·intro d hd;obtain⟨t,ht,rfl⟩:=vO hd;exact(Ba t ht).1.flat
 ·intro i t hi;have LR:=of_decide_eq_true LR;have CZ:∀ {i:Nat}{t:Pt},L0[i]? = some t->t.p≠("changes" : Str)/\t.ws≠[]/\∃c,sg.cps.toList[i]? = some c/\WP ⟨#[c]⟩ t:=λ{i t} hi=>by
   obtain⟨c,s,e,q⟩:=g.get hi;have gi:=(vV e).1;rw[←LR,List.getElem?_take,if_pos gi,vB]at e;obtain⟨n,hn,rfl⟩:=oY e;exact⟨q.nc,q.ne,n,hn,q.wp⟩
  rcases hL with⟨hn,rfl⟩|⟨hn,h6,cs,gc,rfl⟩
  ·exact .inr ⟨λz=>hn z.1,CZ hi⟩
  ·rw[List.getElem?_append]at hi;split at hi
   ·rename_i gi;exact .inr ⟨λz=>by have:=z.2;omega,CZ hi⟩
   ·rename_i hge;have PJ:i=6:=by
     have:=(vV hi).1;simp at this;omega
    subst PJ;rw[h6]at hi;cases hi
    exact .inl ⟨⟨hn,rfl⟩,rfl,cs,gc,rfl,rfl⟩
theorem jy {zs:List Str}{k:Nat}{day:Int}{kind:Str}{L:List Pt}(h0:0<=day)(hk:decide (kind=("root" : Str))=false:=by decide +kernel)(hc:decide (kind=("chosen" : Str))=false:=by decide +kernel)(hi:AR (mj aO (.str kind) (.str "day")) (.int 0) false=true:=by decide +kernel):
  ∀h:Int,day<=h->0<=h->(kind=("root" : Str)/\(k=0∨k=1)/\∃r,(pN ("day" : Str) day::L).map (·.v)=.str (off zs k)::r)∨(kind≠("root" : Str)/\(∃(d:Int)(r:List D),(pN ("day" : Str) day::L).map (·.v)=.int d::r/\d<=h/\0<=d/\(kind=("chosen" : Str)->∃a b c s,r=[a,b,c,.int s]/\d<=s))/\mj aO (.str kind) (.str "day")=some (.int 0,false)) :=
 λh hd _=>.inr ⟨of_decide_eq_false hk,⟨day,_,rfl,hd,h0,λe=>absurd e (of_decide_eq_false hc)⟩,bC hi⟩
section
variable {zs:List Str}{k:Nat}{day:Int}(nm:Nm6 zs) (h0:0<=day) (h9:day<=9999)
include nm h0 h9
theorem A3 {o p:Str}(ho:o∈zs)(hp:p∈zs):GX zs k day ("named" : Str) [pN ("day" : Str) day,pT ("office" : Str) o,pT ("person" : Str) p] :=
 CG (sg:=("nnnnn" : Str)) (parts:=[("day" : Str),("office" : Str),("person" : Str)]) (.cons (iC h0 h9) (.cons (qm ho nm) (.cons (sD hp nm) .nil))) (.inl ⟨by decide +kernel,rfl⟩) (by simp) rfl (jy h0)
theorem CH {b o p:Str}(hb:b∈zs)(ho:o∈zs)(hp:p∈zs):GX zs k day ("heir" : Str) [pN ("day" : Str) day,pT ("by" : Str) b,pT ("office" : Str) o,pT ("person" : Str) p] :=
 CG (sg:=("nnnnn" : Str)) (parts:=[("day" : Str),("by" : Str),("office" : Str),("person" : Str)]) (.cons (iC h0 h9) (.cons (pr hb nm) (.cons (qm ho nm) (.cons (sD hp nm) .nil)))) (.inl ⟨by decide +kernel,rfl⟩) (by simp) rfl (jy h0)
theorem xV {b o p:Str}{s:Int}(hb:b∈zs)(ho:o∈zs)(hp:p∈zs)(hs:day<=s)(PK:s<=9999):GX zs k day ("chosen" : Str) [pN ("day" : Str) day,pT ("by" : Str) b,pT ("office" : Str) o,pT ("person" : Str) p,pN ("since" : Str) s] :=
 CG (sg:=("nnnnn" : Str)) (parts:=[("day" : Str),("by" : Str),("office" : Str),("person" : Str),("since" : Str)]) (.cons (iC h0 h9) (.cons (pr hb nm) (.cons (qm ho nm) (.cons (sD hp nm) (.cons (A2 (by omega) PK) .nil))))) (.inl ⟨by decide +kernel,rfl⟩) (by simp) rfl
  λh hd _=>.inr ⟨by decide +kernel,⟨day,_,rfl,hd,h0,λ_=>⟨_,_,_,s,rfl,hs⟩⟩,bC (by decide +kernel)⟩
theorem ur {kind p:Str}(hk:kind=("death" : Str)∨kind=("lost" : Str)∨kind=("found" : Str))(hp:p∈zs):GX zs k day kind [pN ("day" : Str) day,pT ("person" : Str) p]:=by
 rcases hk with rfl|rfl|rfl<;>exact CG (sg:=("nnnnn" : Str)) (parts:=[("day" : Str),("person" : Str)]) (.cons (iC h0 h9) (.cons (sD hp nm) .nil)) (.inl ⟨by decide +kernel,rfl⟩) (by simp) rfl (jy h0)
theorem DG {kind b:Str}{n:Int}(hk:kind=("copy" : Str)∨kind=("call" : Str))(hb:b∈zs)(hn:0<=n/\n<=59):GX zs k day kind [pN ("day" : Str) day,pT ("by" : Str) b,pN ("of" : Str) n]:=by
 rcases hk with rfl|rfl<;>exact CG (sg:=("nnnnn" : Str)) (parts:=[("day" : Str),("by" : Str),("of" : Str)]) (.cons (iC h0 h9) (.cons (pr hb nm) (.cons (DD hn.1 hn.2) .nil))) (.inl ⟨by decide +kernel,rfl⟩) (by simp) rfl (jy h0)
theorem A4 {b p:Str}{m:Nat}{s f:Int}{o:Option Int}(hb:b∈zs)(hp:p∈zs)(hm:1<=m/\m<=255)(hs:DA s o)(hf:0<=f/\f<=9):GX zs k day ("leave" : Str) [pN ("day" : Str) day,pT ("by" : Str) b,pT ("person" : Str) p,pM m,pS s o,pN ("further" : Str) f] :=
 CG (sg:=("nnnmsn" : Str)) (parts:=[("day" : Str),("by" : Str),("person" : Str),("matters" : Str),("stretch" : Str),("further" : Str)]) (.cons (iC h0 h9) (.cons (pr hb nm) (.cons (sD hp nm) (.cons (qo hm.1 hm.2) (.cons (uq hs) (.cons (mN hf.1 hf.2) .nil)))))) (.inl ⟨by decide +kernel,rfl⟩) (by simp) rfl (jy h0)
theorem A5 {b:Str}{m:Nat}{s:Int}{o:Option Int}{wo:Option Str}{ps:List Str}(hb:b∈zs)(hm:1<=m/\m<=255)(hs:DA s o)(hw:∀z,wo=some z->z∈zs)(h1:1<=ps.length)(h8:ps.length<=8)(JU:∀p∈ps,p∈zs):GX zs k day ("paper" : Str) [pN ("day" : Str) day,pT ("by" : Str) b,pM m,pS s o,pW wo,pP ps]:=by
 obtain⟨ss,hl,gw⟩:=DF nm hw;exact CG (sg:=("nnmsnp" : Str)) (parts:=[("day" : Str),("by" : Str),("matters" : Str),("stretch" : Str),("whom" : Str),("pieces" : Str)]) (.cons (iC h0 h9) (.cons (pr hb nm) (.cons (qo hm.1 hm.2) (.cons (uq hs) (.cons gw (.cons (F9 h1 h8 λp hp=>nm.nm p (JU p hp)) .nil)))))) (.inl ⟨by decide +kernel,rfl⟩) (by simp;omega) rfl (jy h0)
theorem CJ {b:Str}{m:Nat}{s n:Int}{o:Option Int}{wo:Option Str}{cs:List (Int×Str)}(hb:b∈zs)(hm:1<=m/\m<=255)(hs:DA s o)(hw:∀z,wo=some z->z∈zs)(hn:0<=n/\n<=59)(gc:Ga cs):GX zs k day ("like" : Str) [pN ("day" : Str) day,pT ("by" : Str) b,pM m,pS s o,pW wo,pN ("of" : Str) n,pC cs]:=by
 obtain⟨ss,hl,gw⟩:=DF nm hw;exact CG (L0:=[pN ("day" : Str) day,pT ("by" : Str) b,pM m,pS s o,pW wo,pN ("of" : Str) n]) (sg:=("nnmsnn" : Str)) (parts:=[("day" : Str),("by" : Str),("matters" : Str),("stretch" : Str),("whom" : Str),("of" : Str),("changes" : Str)]) (.cons (iC h0 h9) (.cons (pr hb nm) (.cons (qo hm.1 hm.2) (.cons (uq hs) (.cons gw (.cons (DD hn.1 hn.2) .nil)))))) (.inr ⟨rfl,rfl,cs,gc,rfl⟩) (by simp;omega) rfl (jy h0)
omit h0 h9 in
theorem CK {m:Nat}{f:Int}{r:Str}(hk:k=0∨k=1)(hm:1<=m/\m<=255)(hf:0<=f/\f<=9)(hr:r∈[("open" : Str),("first" : Str),("last" : Str)]):GX zs k day ("root" : Str) [pT ("office" : Str) (off zs k),pM m,pN ("further" : Str) f,pT ("rule" : Str) r] :=
 CG (sg:=("nmnn" : Str)) (parts:=[("office" : Str),("matters" : Str),("further" : Str),("rule" : Str)]) (.cons (qm (by
   unfold off;have:=nm.len;rw[List.getD_eq_getElem?_getD,vU (by omega)];exact List.getElem_mem _) nm) (.cons (qo hm.1 hm.2) (.cons (mN hf.1 hf.2) (.cons (CD hr) .nil)))) (.inl ⟨by decide +kernel,rfl⟩) (by simp) rfl
  λh _ _=>.inl ⟨rfl,hk,_,rfl⟩
end
theorem iO {α:Type}(l:List α)(F:α->D){ρ:DL.Env}{fl fx:FE}{b:Bool}{a m:Int}(el:fl ρ=some (.lst (l.map F),b))(ex:fx ρ=sF (.int a))(h0:0<m)(hm:m<=l.length):∃x∈l.take m.toNat,f2 cb fl (f2 bc fx (fI m)) ρ=some (F x,false):=by
 have h:=mod_lt (x:=a) h0;obtain⟨j,hj⟩:∃j:Nat,a % m=j:=⟨(a % m).toNat,by omega⟩;have hl:j<l.length:=by omega
 refine⟨l[j],List.mem_take_iff_getElem.mpr ⟨j,by omega,rfl⟩,bq (x:=.lst (l.map F)) (y:=.int j) (b1:=b) (b2:=false) el (hj ▸ im ex h0) ?_⟩;have:(l.map F)[j]? = some (F l[j]):=by rw[vB,vU hl];rfl
 simp[Af this]
noncomputable def gC (zs:List Str)(i:Int):Str:=zs.getD i.toNat ""
theorem kc {zs:List Str}(nm:Nm6 zs){i:Int}(h:i<6):gC zs i∈zs:=by
 have:=nm.len;unfold gC;rw[List.getD_eq_getElem?_getD,vU (by omega)];exact List.getElem_mem _
theorem A6 {zs:List Str}(nm:Nm6 zs){i:Int}(h0:0<=i)(h:i<6):cb (.lst (zs.map .str)) (.int i)=sF (.str (gC zs i)):=by
 have hl:=nm.len;rw[tU h0 (by simp;omega)];congr 2;unfold gC;rw[List.getD_eq_getElem?_getD,List.getD_eq_getElem?_getD,vB,vU (show i.toNat<zs.length by omega)];rfl
theorem CL:(List.range 8).all (λ(k:Nat)=>AR (cb (.tup [.int 1,.int 2,.int 4,.int 8,.int 16,.int 32,.int 64,.int 128]) (.int k)) (.int ((2 ^ k:Nat):Int)) false)=true:=by decide +kernel
theorem sE (c:Int){zs:List Str}(nm:Nm6 zs):∃cs,i6 [.int c,.lst (zs.map .str)]=some (.tup (cs.map gW),false)/\Ga cs:=by
 let p:Nat->Bool:=λk=>decide (c / ((2 ^ k:Nat):Int) % 2=1);let ks:=(List.range 8).filter p;let cf:Nat->Int×Str:=λk=>((k:Int),gC zs ((c+k) % 6));have PL:ks.length<=8:=vR (List.length_filter_le _ _) (by simp);have PM:∀k∈ks,k<8:=λk hk=>List.mem_range.mp (List.mem_filter.mp hk).1;have LS:∀k:Nat,0<=(c+k) % 6/\(c+k) % 6<6:=λk=>mod_lt (by decide);refine⟨ks.map cf,ao rfl (cK (ds:=(ks.map λ(k:Nat)=>.int k)) ?_ ?_ (aw (ak (ds:=[.lst ((ks.map cf).map gW)]) (a8 (b:=true) ?_ rfl) (by simp)))),?_,?_,by simpa using PL⟩
 ·refine rL (fi:=dc (fI 8)) (nT:=1) (cap:=[0]) (tg:=dI 0) (c:=aT (f2 cI (f2 bc (f2 b9 (af 1) (f2 cb (fA bM (ac (fI 1) (ac (fI 2) (ac (fI 4) (ac (fI 8) (ac (fI 16) (ac (fI 32) (ac (fI 64) (ac (fI 128) ai))))))))) (af 0))) (fI 2)) (fI 1))) (fe:=af 0) (ρ:=[sF (.int c),sF (.lst (zs.map .str)),none]) (List.range 8) (λ(k:Nat)=>.int k) p (λ(k:Nat)=>.int k)
   (by rw[dQ (j:=8) (b:=false) rfl (by decide),kE,uP];rfl) (by simp) λk hk=>?_
  have hk:=List.mem_range.mp hk;have h2:=bC (uR CL k (List.mem_range.mpr hk));have Dc:(0:Int)<((2 ^ k:Nat):Int):=by have:=Nat.pow_pos (n:=k) (show 0<2 by decide);omega
  have wx:((2 ^ k:Nat):Int)<1073741824:=by
   have:2 ^ k<=2 ^ 8:=Nat.pow_le_pow_right (by decide) (by omega);omega
  refine⟨_,rfl,Cq (dN (.int (c / ((2 ^ k:Nat):Int) % 2)) (.int 1) (im (dN (.int c) (.int ((2 ^ k:Nat):Int)) rfl (dN (.tup [.int 1,.int 2,.int 4,.int 8,.int 16,.int 32,.int 64,.int 128]) (.int k) (by simp[sizeLine]) rfl h2) (F3 _ Dc wx)) (by decide)) rfl l5),λ_=>⟨false,rfl⟩⟩
 ·exact bP (by intro d hd;obtain⟨k,_,rfl⟩:=vO hd;rfl)
 ·rw[uP];refine eC (fi:=cn (af 2)) (nT:=1) (cap:=[1,0]) (tg:=dI 0) (fe:=fA bM (ac (af 0) (ac (f2 cb (af 1) (f2 bc (f2 bp (af 2) (af 0)) (fI 6))) ai))) (ρ:=[sF (.int c),sF (.lst (zs.map .str)),lT (ks.map λ(k:Nat)=>.int k)]) ks (λ(k:Nat)=>.int k) (λk=>gW (cf k)) (by simp) (by omega) λk hk=>?_;refine⟨_,rfl,false,oD [.int k,.str (gC zs ((c+k) % 6))] (cA rfl (cA (dN (.lst (zs.map .str)) (.int ((c+k) % 6)) rfl (im (dN (.int c) (.int k) rfl rfl rfl) (by decide)) (A6 nm (LS k).1 (LS k).2)) rfl)) ?_⟩;simp[sizeLine,gW,cf]
 ·intro x hx;obtain⟨k,hk,rfl⟩:=vO hx;have:=PM k hk;exact⟨⟨by simp[cf],by simp[cf];omega⟩,nm.nm _ (kc nm (LS k).2)⟩
 ·rw[uP];refine List.pairwise_map.mpr (List.Pairwise.imp ?_ (List.pairwise_lt_range.filter p));intro a b h;simp[cf];exact h
theorem ut {x:Int}(h:0<=x):∃y:Int,lm [.int 9999,.int x]=sF (.int y)/\0<=y/\y<=9999/\y<=x/\(x<=9999->y=x)/\(9999<x->y=9999):=⟨if x<9999 then x else 9999,rfl,by split<;>omega,by split<;>omega,by split<;>omega,by split<;>omega,by split<;>omega⟩
theorem qp (o:Option Str):bd (wD o)=true:=by cases o<;>rfl
theorem CM (o:Option Int):bd (uI o)=true:=by cases o<;>rfl
theorem xW {ρ:DL.Env}{fa:FA}(ds:List D)(e:fa ρ=some ds)(h:ds.length<=20:=by exact Nat.le_of_ble_eq_true rfl):fA bM fa ρ=sF (.tup ds):=ak e (by
 have:ds.length<=sizeLine:=cu (by omega);simp[this])
theorem mO {ρ:DL.Env}{fa:FA}(ds:List D)(e:fa ρ=some ds)(h:ds.length<=20:=by exact Nat.le_of_ble_eq_true rfl):fA aY fa ρ=lT ds:=ak e (by
 have:ds.length<=sizeLine:=cu (by omega);simp[this])
theorem Gu {ρ:DL.Env}{fx fy:FE}{xs ys:List D}{b b':Bool}(ex:fx ρ=some (.lst xs,b))(ey:fy ρ=some (.lst ys,b'))(h:xs.length+ys.length<=100:=by exact Nat.le_of_ble_eq_true rfl):f2 bp fx fy ρ=lT (xs++ys):=bq ex ey (by
 have:xs.length+ys.length<=sizeLine:=cu (by omega);simp only[bp,if_pos this])
theorem A7 (c:Int){day:Int}{k:Nat}(hk:k<=10){zs:List Str}(nm:Nm6 zs)(h0:0<=day)(h9:day<=9999):∃kind L,gz [.int c,.int k,.int day,.lst (zs.map .str)]=some (.tup (.str kind::L.map Pt.v),false)/\∀j,GX zs j day kind L:=by
 have PN:=nm.len;have ix:∀ {ρ:DL.Env}{f:FE}{i:Int},ρ[3]? = some (sF (.lst (zs.map .str)))->f ρ=sF (.int i)->0<=i->i<6->f2 cb (af 3) f ρ=sF (.str (gC zs i)):=λ{ρ f i} h e h0 h6=>dN (.lst (zs.map .str)) (.int i) (by simp[h]) e (A6 nm h0 h6);let E:D->DL.Env:=λx=>[sF (.int c),sF (.int k),sF (.int day),sF (.lst (zs.map .str)),sF x,none,none,none,none,none,none];let E0:DL.Env:=[sF (.int c),sF (.int k),sF (.int day),sF (.lst (zs.map .str)),none,none,none,none,none,none,none];obtain⟨M,hM,eM⟩:=iO ([40,9999]:List Int) .int (ρ:=E0) (fl:=fA aY (ac (fI 40) (ac (fI 9999) ai))) (fx:=f2 b9 (af 0) (fI 3)) (b:=true) (a:=c / 3) (m:=2) (by simp[sizeLine]) (kh rfl (by decide) (by decide)) (by decide) (by decide);have hM:0<M/\M<=9999:=by
  have hM:M∈[40,9999]:=hM;simp at hM;omega
 obtain⟨s,hs⟩:∃s,c / 13 % M=s:=⟨_,rfl⟩;have PP:=mod_lt (x:=c / 13) hM.1;rw[hs]at PP;have e4:fA bM (ac (f2 bc (f2 b9 (af 0) (fI 13)) (f2 cb (fA aY (ac (fI 40) (ac (fI 9999) ai))) (f2 bc (f2 b9 (af 0) (fI 3)) (fI 2)))) (ac (fC .non) ai)) E0=sF (.tup [.int s,.non]) :=
  oD [.int s,.non] (cA (dN (.int (c / 13)) (.int M) (kh rfl (by decide) (by decide)) eM (by rw[sw _ hM.1,hs])) rfl) (by simp[sizeLine])
 have PQ:=mod_lt (x:=c / 11) (m:=900) (by decide);obtain⟨y,ey,Q3,Q4,Nk,Q5,Q6⟩:=ut (x:=s+1+c / 11 % 900) (by omega);have e5:∃o,DA s o/\cZ (aT (f2 cI (f2 bc (f2 b9 (af 0) (fI 7)) (fI 2)) (fI 1))) (bi 4 (fA bM (ac (f2 cb (af 4) (fC (.int 0))) (ac (fA lm (ac (fI 9999) (ac (f2 bp (f2 bp (f2 cb (af 4) (fC (.int 0))) (fI 1)) (f2 bc (f2 b9 (af 0) (fI 11)) (fI 900))) ai))) ai)))) aJ (E (.tup [.int s,.non]))=some (.nx (E (.tup [.int s,uI o]))):=by
  have ht:aT (f2 cI (f2 bc (f2 b9 (af 0) (fI 7)) (fI 2)) (fI 1)) (E (.tup [.int s,.non]))=some (decide (c / 7 % 2=1)):=Cq (dN (.int (c / 7 % 2)) (.int 1) (im (kh rfl (by decide) (by decide)) (by decide)) rfl l5);have hx:f2 cb (af 4) (fC (.int 0)) (E (.tup [.int s,.non]))=sF (.int s):=by simp[E,qx]
  by_cases h7:c / 7 % 2=1
  ·refine⟨some y,⟨by omega,by omega,λt e=>by cases e;omega⟩,pZ (ht.trans (by rw[decide_eq_true h7])) ?_⟩;exact mr (d:=.tup [.int s,.int y]) (b:=false) (oD [.int s,.int y] (cA hx (cA (oD [.int 9999,.int (s+1+c / 11 % 900)] (cA rfl (cA (dN (.int (s+1)) (.int (c / 11 % 900)) (dN (.int s) (.int 1) hx rfl rfl) (im (kh rfl (by decide) (by decide)) (by decide)) rfl) rfl)) ey) rfl)) (by simp[sizeLine])) rfl
  ·exact⟨none,⟨by omega,by omega,λt e=>by cases e⟩,tT (ht.trans (by rw[decide_eq_false h7])) rfl⟩
 obtain⟨o,lg,e5⟩:=e5;have N0:∀x:Int,0<=x % 4/\x % 4<4:=λx=>mod_lt (by decide);have m1:=N0 (c / 3);have m2:=N0 (c / 17);obtain⟨one,h1⟩:∃z,gC zs (c / 3 % 4)=z:=⟨_,rfl⟩;obtain⟨two,h2⟩:∃z,gC zs (c / 17 % 4)=z:=⟨_,rfl⟩;have in1:one∈zs:=h1 ▸ kc nm (by omega);have G3:two∈zs:=h2 ▸ kc nm (by omega);have N6:gC zs 4∈zs:=kc nm (by decide);have PR:gC zs 5∈zs:=kc nm (by decide);have LU:=mod_lt (x:=c / 5) (m:=255) (by decide);obtain⟨m,hm⟩:∃m:Nat,1+c / 5 % 255=m:=⟨(1+c / 5 % 255).toNat,by omega⟩;have LV:1<=m/\m<=255:=by omega
 obtain⟨wo,Gc,PU⟩:=iO ([none,some two]:List (Option Str)) wD (ρ:=[sF (.int c),sF (.int k),sF (.int day),sF (.lst (zs.map .str)),sF (.tup [.int s,uI o]),sF (.str one),sF (.str two),sF (.int m),none,none,none]) (fl:=fA aY (ac (fC .non) (ac (af 6) ai))) (fx:=af 0) (b:=true) (a:=c) (m:=2) (by simp[sizeLine,wD]) rfl (by decide) (by simp);have Gc:∀z,wo=some z->z∈zs:=by
  have Gc:wo∈[none,some two]:=Gc;intro z hz;subst hz;simp at Gc;exact Gc ▸ G3
 have Q7:=mod_lt (x:=c / 19) (m:=50) (by decide);obtain⟨y2,PV,Q8,PX,Q9,AZ,Nb⟩:=ut (x:=day+c / 19 % 50) (by omega);have N7:=mod_lt (x:=c / 23) (m:=10) (by decide);have JP:=mod_lt (x:=c / 29) (m:=60) (by decide);have PY:=mod_lt (x:=c / 31) (m:=60) (by decide);have h6:=mod_lt (x:=c / 29) (m:=6) (by decide);have h3:=mod_lt (x:=c / 31) (m:=3) (by decide);obtain⟨cs,PZ,Qa⟩:=sE (c / 1740) nm;let ps:List Str:=zs.take (1+c / 29 % 6).toNat++zs.take (c / 31 % 3).toNat;have JU:1<=ps.length/\ps.length<=8:=by
  have:ps.length=(zs.take (1+c / 29 % 6).toNat++zs.take (c / 31 % 3).toNat).length:=rfl;rw[this,vA,List.length_take,List.length_take,PN];omega
 have Nd:∀p∈ps,p∈zs:=λp hp=>by
  rcases List.mem_append.mp hp with h|h<;>exact List.mem_of_mem_take h
 let st:D:=.tup [.int s,uI o];let dA:List D:=[.tup [.str "named",.int day,.str (gC zs 4),.str one],.tup [.str "chosen",.int day,.str one,.str (gC zs 4),.str two,.int y2]];let dB:List D:=[.tup [.str "heir",.int day,.str one,.str (gC zs 5),.str two],.tup [.str "death",.int day,.str one],.tup [.str "lost",.int day,.str one],.tup [.str "found",.int day,.str two]];let dC:List D:=[.tup [.str "leave",.int day,.str one,.str two,.int m,st,.int (c / 23 % 10)]];let dP:List D:=[.tup [.str "paper",.int day,.str one,.int m,st,wD wo,.tup (ps.map .str)]];let dK:List D:=[.tup [.str "like",.int day,.str one,.int m,st,wD wo,.int (c / 29 % 60),.tup (cs.map gW)]];let dZ:List D:=[.tup [.str "copy",.int day,.str two,.int (c / 29 % 60)],.tup [.str "call",.int day,.str one,.int (c / 31 % 60)]];have Gd:bd st=true:=by simp[st,CM]
 have Qb:aS dA=true:=by simp[dA]
 have Qc:aS (dA++dB)=true:=by simp[dA,dB]
 have Qd:aS (dA++dB++dC)=true:=by simp[dA,dB,dC,Gd]
 have Qe:aS (dA++dB++dC++dP)=true:=by simp[dA,dB,dC,dP,Gd,qp,aW]
 have Qf:aS (cs.map gW)=true:=bP (by intro d hd;obtain⟨x,_,rfl⟩:=vO hd;rfl);have Qg:aS (dA++dB++dC++dP++dK)=true:=by simp[dA,dB,dC,dP,dK,Gd,qp,aW,Qf]
 have key:gz [.int c,.int k,.int day,.lst (zs.map .str)]=sF ((dA++dB++dC++dP++dK++dZ).getD k .non):=by
  refine ao rfl (gM (d:=.tup [.int s,.non]) (b:=false) e4 rfl (dM e5 (qw (.str one) (h1 ▸ ix rfl (im (kh rfl (by decide) (by decide)) (by decide)) m1.1 (by omega)) rfl (qw (.str two) (h2 ▸ ix rfl (im (kh rfl (by decide) (by decide)) (by decide)) m2.1 (by omega)) rfl (qw (.int m) (hm ▸ dN (.int 1) (.int (c / 5 % 255)) rfl (im (kh rfl (by decide) (by decide)) (by decide)) rfl) rfl (qw (wD wo) PU (qp wo) (cK (ds:=dA) ?_ Qb (cK (ds:=dA++dB) ?_ Qc (cK (ds:=dA++dB++dC) ?_ Qd (qw (.tup (ps.map .str)) ?_ (by simp[aW]) (cK (ds:=dA++dB++dC++dP) ?_ Qe (cK (ds:=dA++dB++dC++dP++dK) ?_ Qg (aw ?_)))))))))))))
  ·exact mO dA (a8 (b:=false) (xW [.str "named",.int day,.str (gC zs 4),.str one] (cA rfl (cA rfl (cA (ix rfl rfl (by decide) (by decide)) (cA rfl rfl))))) (a8 (b:=false) (xW [.str "chosen",.int day,.str one,.str (gC zs 4),.str two,.int y2] (cA rfl (cA rfl (cA rfl (cA (ix rfl rfl (by decide) (by decide)) (cA rfl (cA (oD [.int 9999,.int (day+c / 19 % 50)] (cA rfl (cA (dN (.int day) (.int (c / 19 % 50)) rfl (im (kh rfl (by decide) (by decide)) (by decide)) rfl) rfl)) PV) rfl))))))) rfl))
  ·exact Gu (b:=false) rfl (mO dB (a8 (b:=false) (xW [.str "heir",.int day,.str one,.str (gC zs 5),.str two] (cA rfl (cA rfl (cA rfl (cA (ix rfl rfl (by decide) (by decide)) (cA rfl rfl)))))) (a8 (b:=false) (xW [.str "death",.int day,.str one] rfl) (a8 (b:=false) (xW [.str "lost",.int day,.str one] rfl) (a8 (b:=false) (xW [.str "found",.int day,.str two] rfl) rfl)))))
  ·exact Gu (b:=false) rfl (mO dC (a8 (b:=false) (xW [.str "leave",.int day,.str one,.str two,.int m,st,.int (c / 23 % 10)] (cA rfl (cA rfl (cA rfl (cA rfl (cA rfl (cA rfl (cA (im (kh rfl (by decide) (by decide)) (by decide)) rfl)))))))) rfl))
  ·refine oD [.lst (ps.map .str)] (a8 (b:=true) ?_ rfl) rfl;have t1:∀ {ρ:DL.Env}{f:FE}{i:Int},ρ[3]? = some (sF (.lst (zs.map .str)))->f ρ=sF (.int i)->0<=i->kA (af 3) cC (bR f) ρ=some (.lst ((zs.take i.toNat).map .str),true):=λ{ρ f i} h e h0=>by
    have:=g9 (zs.map D.str) i.toNat;rw[Int.toNat_of_nonneg h0,←List.map_take]at this;simp[h,e,this]
   have em:ps.map D.str=(zs.take (1+c / 29 % 6).toNat).map .str++(zs.take (c / 31 % 3).toNat).map .str:=uX;rw[em];exact Gu (b:=true) (b':=true) (t1 (i:=1+c / 29 % 6) rfl (dN (.int 1) (.int (c / 29 % 6)) rfl (im (kh rfl (by decide) (by decide)) (by decide)) rfl) (by omega)) (t1 (i:=c / 31 % 3) rfl (im (kh rfl (by decide) (by decide)) (by decide)) h3.1) (by simp;omega)
  ·exact Gu (b:=false) rfl (mO dP (a8 (b:=false) (xW [.str "paper",.int day,.str one,.int m,st,wD wo,.tup (ps.map .str)] rfl) rfl))
  ·exact Gu (b:=false) rfl (mO dK (a8 (b:=false) (xW [.str "like",.int day,.str one,.int m,st,wD wo,.int (c / 29 % 60),.tup (cs.map gW)] (cA rfl (cA rfl (cA rfl (cA rfl (cA rfl (cA rfl (cA (im (kh rfl (by decide) (by decide)) (by decide)) (cA (oD [.int (c / 1740),.lst (zs.map .str)] (cA (kh rfl (by decide) (by decide)) rfl) PZ) rfl))))))))) rfl))
  ·refine bq (x:=.lst (dA++dB++dC++dP++dK++dZ)) (y:=.int k) (b1:=true) (b2:=false) (Gu (b:=false) rfl (mO dZ (a8 (b:=false) (xW [.str "copy",.int day,.str two,.int (c / 29 % 60)] (cA rfl (cA rfl (cA rfl (cA (im (kh rfl (by decide) (by decide)) (by decide)) rfl))))) (a8 (b:=false) (xW [.str "call",.int day,.str one,.int (c / 31 % 60)] (cA rfl (cA rfl (cA rfl (cA (im (kh rfl (by decide) (by decide)) (by decide)) rfl))))) rfl)))) rfl ?_;rw[tU (by omega) (by simp[dA,dB,dC,dP,dK,dZ];omega),Int.toNat_natCast]
 have res:∀ {kind:Str}{L:List Pt},(dA++dB++dC++dP++dK++dZ).getD k .non=.tup (.str kind::L.map Pt.v)->(∀j,GX zs j day kind L)->∃kind L,gz [.int c,.int k,.int day,.lst (zs.map .str)]=some (.tup (.str kind::L.map Pt.v),false)/\∀j,GX zs j day kind L:=λ{kind L} e g=>⟨kind,L,by rw[key,e],g⟩;obtain rfl|rfl|rfl|rfl|rfl|rfl|rfl|rfl|rfl|rfl|rfl:k=0∨k=1∨k=2∨k=3∨k=4∨k=5∨k=6∨k=7∨k=8∨k=9∨k=10:=by omega
 ·exact res (L:=[pN _ day,pT _ _,pT _ one]) rfl λj=>A3 nm h0 h9 N6 in1
 ·exact res (L:=[pN _ day,pT _ one,pT _ _,pT _ two,pN _ y2]) rfl λj=>xV nm h0 h9 in1 N6 G3 (by omega) PX
 ·exact res (L:=[pN _ day,pT _ one,pT _ _,pT _ two]) rfl λj=>CH nm h0 h9 in1 PR G3
 ·exact res (L:=[pN _ day,pT _ one]) rfl λj=>ur nm h0 h9 (.inl rfl) in1
 ·exact res (L:=[pN _ day,pT _ one]) rfl λj=>ur nm h0 h9 (.inr (.inl rfl)) in1
 ·exact res (L:=[pN _ day,pT _ two]) rfl λj=>ur nm h0 h9 (.inr (.inr rfl)) G3
 ·exact res (L:=[pN _ day,pT _ one,pT _ two,pM m,pS s o,pN _ _]) rfl λj=>A4 nm h0 h9 in1 G3 LV lg ⟨N7.1,by omega⟩
 ·exact res (L:=[pN _ day,pT _ one,pM m,pS s o,pW wo,pP ps]) rfl λj=>A5 nm h0 h9 in1 LV lg Gc JU.1 JU.2 Nd
 ·exact res (L:=[pN _ day,pT _ one,pM m,pS s o,pW wo,pN _ _,pC cs]) rfl λj=>CJ nm h0 h9 in1 LV lg Gc ⟨JP.1,by omega⟩ Qa
 ·exact res (L:=[pN _ day,pT _ two,pN _ _]) rfl λj=>DG nm h0 h9 (.inl rfl) G3 ⟨JP.1,by omega⟩
 ·exact res (L:=[pN _ day,pT _ one,pN _ _]) rfl λj=>DG nm h0 h9 (.inr rfl) in1 ⟨PY.1,by omega⟩
structure GR (zs:List Str)(k:Nat)(r:Rw):Prop where
 rl:RL zs k r.h r.kind r.L
 wl:WL r.kind r.L
 dep:∀t∈r.L,xT 3 t.v=true
theorem A8 {ns:List Int}(IU:ns.length<=63)(hf:HZ ns):∃(zs:List Str)(M:List Rw),m7 [.lst (ns.map .int)]=lT (M.map Rw.d)/\M.length<=30/\Nm6 zs/\∀j r,M[j]? = some r->GR zs j r:=by
 obtain⟨c0,e0⟩:=l8 hf 0 (by decide);obtain⟨c1,e1⟩:=l8 hf 1 (by decide);obtain⟨zs,en,nm⟩:=Ay c0;have NA:∀ρ:DL.Env,ρ[0]? = some (sF (.lst (ns.map .int)))->fA bX (fV 0 (ac (fI 1) ai)) ρ=sF (.int c1):=λρ h=>oD [.lst (ns.map .int),.int 1] (cA (by simp[h]) rfl) e1;have bD:∀ρ:DL.Env,ρ[0]? = some (sF (.lst (ns.map .int)))->fA bQ (fV 0 ai) ρ=sF (.int ns.length):=λρ h=>by
  refine oD [.lst (ns.map .int)] (cA (by simp[h]) rfl) ?_;rw[gN,vI]
 obtain⟨n,hn,er⟩:∃n:Nat,n<=30/\f2 cb (fA aY (ac (fA lm (ac (fI 30) (ac (f2 bp (fA bQ (fV 0 ai)) (fI 2)) ai))) (ac (fI 30) ai))) (f2 bc (f2 b9 (fA bX (fV 0 (ac (fI 1) ai))) (fI 99)) (fI 2)) [sF (.lst (ns.map .int)),lT (zs.map .str),lT [],none,none,none,none]=sF (.int n):=by
  obtain⟨q,hq,eq⟩:∃q:Nat,q<=30/\fA lm (ac (fI 30) (ac (f2 bp (fA bQ (fV 0 ai)) (fI 2)) ai)) [sF (.lst (ns.map .int)),lT (zs.map .str),lT [],none,none,none,none]=sF (.int q):=by
   refine⟨if ns.length+2<30 then ns.length+2 else 30,by split<;>omega,oD [.int 30,.int (ns.length+2)] (cA rfl (cA (dN (.int ns.length) (.int 2) (bD _ rfl) rfl rfl) rfl)) ?_⟩
   show some (D.int (if(ns.length:Int)+2<30 then (ns.length:Int)+2 else 30),false)=_;congr 3;split<;>split<;>omega
  obtain⟨x,hx,ex⟩:=iO ([q,30]:List Nat) (λm=>.int (m:Int)) (ρ:=[sF (.lst (ns.map .int)),lT (zs.map .str),lT [],none,none,none,none]) (fl:=fA aY (ac (fA lm (ac (fI 30) (ac (f2 bp (fA bQ (fV 0 ai)) (fI 2)) ai))) (ac (fI 30) ai))) (fx:=f2 b9 (fA bX (fV 0 (ac (fI 1) ai))) (fI 99)) (b:=true) (a:=c1 / 99) (m:=2) (mO [.int q,.int 30] (cA eq rfl)) (kh (NA _ rfl) (by decide) (by decide)) (by decide) (by simp);refine⟨x,?_,ex⟩;have hx:x∈[q,30]:=hx;simp at hx;omega
 obtain⟨ρ',e,M,hM,hG,v3,v4,v5,v6,rfl⟩:=mn (tg:=dI 3) (g:=oR) n (λi ρ=>∃M:List Rw,M.length=i/\(∀j r,M[j]? = some r->GR zs j r)/\∃v3 v4 v5 v6:OB,ρ=[sF (.lst (ns.map .int)),lT (zs.map .str),lT (M.map Rw.d),v3,v4,v5,v6])
  [sF (.lst (ns.map .int)),lT (zs.map .str),lT [],none,none,none,none] ⟨[],rfl,λj r h=>by simp at h,none,none,none,none,rfl⟩ (by
   rintro i ρ hi ⟨M,hM,hG,v3,v4,v5,v6,rfl⟩;obtain⟨cc,LW⟩:=l8 hf (2+i) (by omega);have LW:bX [.lst (ns.map .int),.int (2+(i:Int))]=sF (.int cc):=by rw[←LW];congr 3
   obtain⟨c,hc⟩:∃c:Int,cc % 10 ^ 15=c:=⟨_,rfl⟩;let E4:DL.Env:=[sF (.lst (ns.map .int)),lT (zs.map .str),lT (M.map Rw.d),sF (.int i),sF (.int c),v5,v6];obtain⟨D3,hD,eD⟩:=iO ([3,31,10000]:List Int) .int (ρ:=E4) (fl:=fA aY (ac (fI 3) (ac (fI 31) (ac (fI 10000) ai)))) (fx:=fA bX (fV 0 (ac (fI 1) ai))) (b:=true) (a:=c1) (m:=3) (mO [.int 3,.int 31,.int 10000] rfl) (NA _ rfl) (by decide) (by simp);have hD:0<D3/\D3<=10000:=by
    have hD:D3∈[3,31,10000]:=hD;simp at hD;omega
   obtain⟨day,Db⟩:∃day,c / 12 % D3=day:=⟨_,rfl⟩;have LJ:=mod_lt (x:=c / 12) hD.1;rw[Db]at LJ;let E5:D->DL.Env:=λx=>[sF (.lst (ns.map .int)),lT (zs.map .str),lT (M.map Rw.d),sF (.int i),sF (.int c),sF (.int day),sF x];have e4:f2 bc (fA bX (fV 0 (ac (f2 bp (fI 2) (af 3)) ai))) (f2 EO (fI 10) (fI 15)) [sF (.lst (ns.map .int)),lT (zs.map .str),lT (M.map Rw.d),sF (.int i),v4,v5,v6]=sF (.int c):=by
    refine dN (.int cc) (.int (10 ^ 15)) (oD [.lst (ns.map .int),.int (2+(i:Int))] (cA rfl (cA (dN (.int 2) (.int i) rfl rfl rfl) rfl)) LW) (dN (.int 10) (.int 15) rfl rfl rfl) ?_;rw[sw _ (by decide),hc]
   have e5:f2 bc (f2 b9 (af 4) (fI 12)) (f2 cb (fA aY (ac (fI 3) (ac (fI 31) (ac (fI 10000) ai)))) (f2 bc (fA bX (fV 0 (ac (fI 1) ai))) (fI 3))) E4=sF (.int day):=dN (.int (c / 12)) (.int D3) (kh rfl (by decide) (by decide)) eD (by rw[sw _ hD.1,Db]);have m2:=mod_lt (x:=(i:Int)) (m:=2) (by decide);have LU:=mod_lt (x:=c / 5) (m:=255) (by decide);obtain⟨m,hm⟩:∃m:Nat,1+c / 5 % 255=m:=⟨(1+c / 5 % 255).toNat,by omega⟩;have N7:=mod_lt (x:=c / 7) (m:=10) (by decide);obtain⟨ru,LX,Qh⟩:=iO ([("open" : Str),("first" : Str),("last" : Str)]:List Str) .str (ρ:=[sF (.lst (ns.map .int)),lT (zs.map .str),lT (M.map Rw.d),sF (.int i),sF (.int c),sF (.int day),v6]) (fl:=fA aY (ac (fS "open") (ac (fS "first") (ac (fS "last") ai)))) (fx:=f2 b9 (af 4) (fI 9)) (b:=true) (a:=c / 9) (m:=3) (mO [.str "open",.str "first",.str "last"] rfl) (kh rfl (by decide) (by decide)) (by decide) (by simp);have LX:ru∈[("open" : Str),("first" : Str),("last" : Str)]:=LX;let rt:D:=.tup [.str "root",.str (gC zs (4+(i:Int) % 2)),.int m,.int (c / 7 % 10),.str ru];have e6:fA bM (ac (fS "root") (ac (f2 cb (af 1) (f2 bp (fI 4) (f2 bc (af 3) (fI 2)))) (ac (f2 bp (fI 1) (f2 bc (f2 b9 (af 4) (fI 5)) (fI 255))) (ac (f2 bc (f2 b9 (af 4) (fI 7)) (fI 10)) (ac (f2 cb (fA aY (ac (fS "open") (ac (fS "first") (ac (fS "last") ai)))) (f2 bc (f2 b9 (af 4) (fI 9)) (fI 3))) ai))))) [sF (.lst (ns.map .int)),lT (zs.map .str),lT (M.map Rw.d),sF (.int i),sF (.int c),sF (.int day),v6]=sF rt :=
    xW _ (cA rfl (cA (dN (.lst (zs.map .str)) (.int (4+(i:Int) % 2)) rfl (dN (.int 4) (.int ((i:Int) % 2)) rfl (im rfl (by decide)) rfl) (A6 nm (by omega) (by omega))) (cA (hm ▸ dN (.int 1) (.int (c / 5 % 255)) rfl (im (kh rfl (by decide) (by decide)) (by decide)) rfl) (cA (im (kh rfl (by decide) (by decide)) (by decide)) (cA Qh rfl)))))
   have QA:=mod_lt (x:=c) (m:=11) (by decide);obtain⟨kk,LN⟩:∃kk:Nat,c % 11=kk:=⟨(c % 11).toNat,by omega⟩;obtain⟨kd,Ld,ed,gd⟩:=A7 (c / 12) (k:=kk) (by omega) nm LJ.1 (by omega:day<=9999);have e7:∃kind L,GX zs i day kind L/\cZ (cN (aT (f2 EQ (af 3) (fI 1))) (aT (f2 yY (f2 bc (af 4) (fI 12)) (fI 8)))) (bi 6 (fA gz (ac (f2 b9 (af 4) (fI 12)) (ac (f2 bc (af 4) (fI 11)) (fV 5 (fV 1 ai)))))) aJ (E5 rt)=some (.nx (E5 (.tup (.str kind::L.map Pt.v)))):=by
    have ht:cN (aT (f2 EQ (af 3) (fI 1))) (aT (f2 yY (f2 bc (af 4) (fI 12)) (fI 8))) (E5 rt)=some (decide ((1:Int)<i) || decide (c % 12<8)):=bf (Cq (dN (.int i) (.int 1) rfl rfl (by simp))) λ_=>Cq (dN (.int (c % 12)) (.int 8) (im rfl (by decide)) rfl (by simp));by_cases hq:(decide ((1:Int)<i) || decide (c % 12<8))=true
    ·refine⟨kd,Ld,gd i,pZ (ht.trans (by rw[hq])) (mr (d:=.tup (.str kd::Ld.map Pt.v)) (b:=false) (oD [.int (c / 12),.int kk,.int day,.lst (zs.map .str)] (cA (kh rfl (by decide) (by decide)) (cA (LN ▸ im rfl (by decide)) rfl)) ed) ?_)⟩;have:=(gd i).rl 9999 (by omega) (by omega) (by omega);have:aS (Ld.map Pt.v)=true:=bP (by intro d hd;obtain⟨t,ht,rfl⟩:=vO hd;exact(this.pw t ht).flat.1);simp[this]
    ·have hq:(decide ((1:Int)<i) || decide (c % 12<8))=false:=Bool.eq_false_iff.mpr hq;have NB:i=0∨i=1:=by
      rw[Bool.or_eq_false_iff]at hq;have:=of_decide_eq_false hq.1;omega
     refine⟨("root" : Str),[pT ("office" : Str) (off zs i),pM m,pN ("further" : Str) (c / 7 % 10),pT ("rule" : Str) ru],CK nm NB (by omega) (by omega) LX,tT (ht.trans (by rw[hq])) ?_⟩;have:gC zs (4+(i:Int) % 2)=off zs i:=by
      unfold gC off;rcases NB with rfl|rfl<;>rfl
     show some (Res.nx (E5 rt))=_;simp only[rt,this];rfl
   obtain⟨kind,L,g,e7⟩:=e7;have QB:=mod_lt (x:=c / 37) (m:=99) (by decide);obtain⟨ad,JV,Qi⟩:=iO ([0,0,1,c / 37 % 99]:List Int) .int (ρ:=E5 (.tup (.str kind::L.map Pt.v))) (fl:=fA aY (ac (fI 0) (ac (fI 0) (ac (fI 1) (ac (f2 bc (f2 b9 (af 4) (fI 37)) (fI 99)) ai))))) (fx:=f2 b9 (af 4) (fI 41)) (b:=true) (a:=c / 41) (m:=4) (mO [.int 0,.int 0,.int 1,.int (c / 37 % 99)] (cA rfl (cA rfl (cA rfl (cA (im (kh rfl (by decide) (by decide)) (by decide)) rfl))))) (kh rfl (by decide) (by decide)) (by decide) (by simp);have JV:0<=ad:=by
    have JV:ad∈[0,0,1,c / 37 % 99]:=JV;simp at JV;omega
   obtain⟨h,eh,Qj,Qk,QC,QD,QE⟩:=ut (x:=day+ad) (by omega);have Ql:day<=h:=by omega
   have NC:=g.rl h Ql Qj Qk;let r:Rw:=⟨h,kind,L⟩;have LY:aS (L.map Pt.v)=true:=bP (by intro d hd;obtain⟨t,ht,rfl⟩:=vO hd;exact(NC.pw t ht).flat.1);refine⟨_,[sF (.lst (ns.map .int)),lT (zs.map .str),lT ((M++[r]).map Rw.d),sF (.int i),sF (.int c),sF (.int day),sF (.tup (.str kind::L.map Pt.v))],rfl,.inl (qw (.int c) e4 rfl (qw (.int day) e5 rfl (qw rt e6 rfl (dM e7 ?_)))),M++[r],by simp[hM],?_,_,_,_,_,rfl⟩
   ·have:=mv (ρ:=E5 (.tup (.str kind::L.map Pt.v))) (i:=2) (f:=fA bM (ac (fA lm (ac (fI 9999) (ac (f2 bp (af 5) (f2 cb (fA aY (ac (fI 0) (ac (fI 0) (ac (fI 1) (ac (f2 bc (f2 b9 (af 4) (fI 37)) (fI 99)) ai))))) (f2 bc (f2 b9 (af 4) (fI 41)) (fI 4)))) ai))) (fV 6 ai))) (d:=r.d) (b:=false) (ds:=M.map Rw.d) rfl (xW [.int h,.tup (.str kind::L.map Pt.v)] (cA (oD [.int 9999,.int (day+ad)] (cA rfl (cA (dN (.int day) (.int ad) rfl Qi rfl) rfl)) eh) rfl)) (by simp[r,Rw.d,row,LY]) (dR (by simp;omega));exact this.trans (by rw[uX];rfl)
   ·intro j r' hj;rw[List.getElem?_append]at hj;split at hj
    ·exact hG j r' hj
    ·rename_i hge;have Qm:j=i:=by
      have:=(vV hj).1;simp at this;omega
     subst Qm;rw[hM,Nat.sub_self]at hj;cases hj
     exact⟨NC,g.wl,g.dep⟩)
 exact⟨zs,M,ao rfl (cK (ds:=zs.map .str) (oD [.int c0] (cA (oD [.lst (ns.map .int),.int 0] (cA rfl rfl) e0) rfl) en) (aW _) (cK (ds:=[]) (by simp[sizeLine]) rfl (dM (ik (dQ (j:=n) (b:=false) er (by omega)) e) (qa rfl)))),by omega,nm,hG⟩
structure GM (zs:List Str)(M:List Rw):Prop where
 all:AllR zs M
 wl:∀r∈M,WL r.kind r.L/\∀t∈r.L,xT 3 t.v=true
theorem sG:∀(n:Nat)(d:D),xT n d=true->aN n d=true
 |0,d,h=>by cases d<;>cases h
 |n+1,.tup ds,h=>by
  have h:(decide (ds.length<=1000) && ds.all (xT n))=true:=h;rw[vD,List.all_eq_true]at h;have:ds.all (aN n)=true:=List.all_eq_true.mpr λd hd=>sG n d (h.2 d hd);simpa using this
 |n+1,.int _,_=>rfl
 |n+1,.str _,_=>rfl
 |n+1,.non,_=>rfl
 |n+1,.bl _,h=>by cases h
 |n+1,.lst _,h=>by cases h
 |n+1,.ty _,h=>by cases h
 |n+1,.dk _ _,h=>by cases h
theorem GM.dp {zs:List Str}{M:List Rw}(g:GM zs M):xT 6 (.tup (M.map Rw.d))=true:=by
 have hl:=g.all.len;show(decide _ && List.all _ _)=true;rw[vD,List.all_eq_true];refine⟨decide_eq_true (by rw[vI];omega),λd hd=>?_⟩;obtain⟨r,hr,rfl⟩:=vO hd;obtain⟨j,gr⟩:=g.all.mem hr;have h8:=gr.len;have hd:xT 4 (.tup (.str r.kind::r.L.map Pt.v))=true:=by
  show(decide _ && List.all _ _)=true;rw[vD,List.all_eq_true];refine⟨decide_eq_true (by simp;omega),λd hd=>?_⟩;rcases vP hd with rfl|hd
  ·rfl
  ·obtain⟨t,ht,rfl⟩:=vO hd;exact(g.wl r hr).2 t ht
 show(decide _ && List.all _ _)=true;rw[vD,List.all_eq_true];refine⟨rfl,λd hd'=>?_⟩;rcases vP hd' with rfl|hd'
 ·rfl
 ·rw[uU hd'];exact hd
theorem GM.take {zs:List Str}{M:List Rw}(g:GM zs M)(n:Nat):GM zs (M.take n):=⟨g.all.take n,λr hr=>g.wl r (List.mem_of_mem_take hr)⟩
theorem CN {zs:List Str}{M:List Rw}(g:GM zs M){a0 a1 a2 v4 v5 v6:OB}:∃w4 w5 w6,qd [a0,a1,a2,sF (.lst (M.map Rw.d)),v4,v5,v6]=some (.nx [a0,a1,a2,sF (.lst (M.map Rw.d)),w4,w5,w6]):=by
 have hl:=g.all.len;have DS:=g.all.flat;have Jp:=wk 6 (.tup (M.map Rw.d)) g.dp;have Jq:aN 40 (.tup (M.map Rw.d))=true:=jv 6 40 _ (by decide) (sG 6 _ g.dp);have Gb:=le g.all.rows DS (.lst (M.map Rw.d)) (.inl rfl);have DT:=Ar g.all;have e4:f2 dg (fC (.str ("\n" : PySem.Str))) (bB (cn (af 3)) 1 [] (dI 0) cH (fA i7 (ac (af 0) ai))) [a0,a1,a2,sF (.lst (M.map Rw.d)),v4,v5,v6]=sF (.str (mW M)):=by
  refine bq (x:=.str ("\n" : PySem.Str)) (y:=.lst ((M.map Rw.t).map .str)) (b1:=false) (b2:=true) rfl ?_ (mM g.all);rw[uP];refine eC (fi:=cn (af 3)) (nT:=1) (cap:=[]) (tg:=dI 0) (fe:=fA i7 (ac (af 0) ai)) (ρ:=[a0,a1,a2,sF (.lst (M.map Rw.d)),v4,v5,v6]) M Rw.d (λr=>.str r.t) (by simp) (by omega) λr hr=>?_;obtain⟨j,gr⟩:=g.all.mem hr;exact⟨_,rfl,false,ak (ds:=[r.d]) rfl (A1 gr (g.wl r hr).1)⟩
 have LZ:∀ρ:DL.Env,ρ[3]? = some (sF (.lst (M.map Rw.d)))->fA bH (ac (af 3) ai) ρ=sF (.tup (M.map Rw.d)):=λρ h=>by simp[h]
 have ND:∀ρ:DL.Env,ρ[3]? = some (sF (.lst (M.map Rw.d)))->fA cE (ac (fA dF (ac (af 3) ai)) ai) ρ=sF (.tup (M.map Rw.d)):=λρ h=>ak (ds:=[.lst (M.map Rw.d)]) (a8 (b:=true) (by simp[h]) rfl) Gb;have LY:bd (.tup (M.map Rw.d))=true:=by simp[DS]
 refine⟨sF (.str (mW M)),sF (.tup (M.map Rw.d)),sF (.str (mW M)),qw (.str (mW M)) e4 rfl (qw (.tup (M.map Rw.d)) (ak (ds:=[.str (mW M)]) rfl (C9 g.all)) LY (am (bf (p:=false) (q:=false) (cL (p:=true) (aH (b:=false) (ak (ds:=[.tup (M.map Rw.d),.tup (M.map Rw.d)]) (cA rfl (cA (LZ _ rfl) rfl)) Jp))) λ_=>aH (b:=false) (bq (x:=.tup (M.map Rw.d)) (y:=.tup (M.map Rw.d)) (b1:=false) (b2:=false) rfl (ND _ rfl) ?_)) (qw (.str (mW M)) (ak (ds:=[.tup (M.map Rw.d)]) rfl DT) rfl (tT (bf (p:=false) (q:=false) (cL (p:=true) (by simp)) λ_=>bf (p:=false) (q:=false) (by simp) λ_=>aH (b:=false) (bq (x:=.str (mW M)) (y:=.str (mW M)) (b1:=false) (b2:=false) (ak (ds:=[.tup (M.map Rw.d)]) (a8 (ND _ rfl) rfl) DT) rfl (by simp))) rfl))))⟩;have:=m8 40 _ Jq;simp only[tt,Jq,this];rfl
theorem law_true (ns:List Int)(IU:ns.length<=63)(hf:HZ ns):∃b,F_law [.lst (ns.map .int)]=some (.bl true,b):=by
 obtain⟨zs,M,er,hl,nm,hG⟩:=A8 IU hf;obtain⟨c1,e1⟩:=l8 hf 1 (by decide);have g:GM zs M:=⟨⟨hl,nm,λj r h=>(hG j r h).rl⟩,λr hr=>by
  obtain⟨j,hj⟩:=List.mem_iff_getElem?.mp hr;exact⟨(hG j r hj).wl,(hG j r hj).dep⟩⟩
 have Dc:(0:Int)<(M.length:Int)+1:=by omega
 have Qn:=mod_lt (x:=c1 / 3) Dc;obtain⟨n,hn⟩:∃n:Nat,c1 / 3 % ((M.length:Int)+1)=n:=⟨(c1 / 3 % ((M.length:Int)+1)).toNat,by omega⟩;have Ma:iP (M.map Rw.d) none (some (n:Int))=(M.take n).map Rw.d:=by rw[g9,List.map_take]
 let rows:=M.map Rw.d;let ds:List D:=[.lst (M.map Rw.d),.lst ((M.take n).map Rw.d),.lst (([]:List Rw).map Rw.d)];have g0:GM zs []:=g.take 0;obtain⟨ρ',e,v3,v4,v5,v6,rfl⟩:=jI (tg:=dI 3) (g:=qd) (λi ρ=>∃v3 v4 v5 v6:OB,ρ=[sF (.lst (ns.map .int)),sF (.lst rows),sF (.int n),v3,v4,v5,v6]) ds [sF (.lst (ns.map .int)),sF (.lst rows),sF (.int n),none,none,none,none] ⟨none,none,none,none,rfl⟩ (by
  rintro i d ρ hd ⟨v3,v4,v5,v6,rfl⟩;have hM:∃M',d=.lst (M'.map Rw.d)/\GM zs M':=by
   have:=List.mem_of_getElem? hd;rcases vP this with rfl|this
   ·exact⟨M,rfl,g⟩
   ·rcases vP this with rfl|this
    ·exact⟨M.take n,rfl,g.take n⟩
    ·rw[uU this];exact⟨[],rfl,g0⟩
  obtain⟨M',rfl,g'⟩:=hM;obtain⟨w4,w5,w6,e⟩:=CN g' (a0:=sF (.lst (ns.map .int))) (a1:=sF (.lst rows)) (a2:=sF (.int n)) (v4:=v4) (v5:=v5) (v6:=v6);exact⟨_,_,rfl,.inl e,_,_,_,_,rfl⟩)
 refine⟨false,ao rfl (cK (ds:=rows) (ak (ds:=[.lst (ns.map .int)]) rfl er) g.all.flat (qw (.int n) ?_ rfl (dM (show HL [1,2] (ll (cn (fA aY (ac (af 1) (ac (kA (af 1) cC (bR (af 2))) (ac (fA aY ai) ai))))) (dI 3) qd) [sF (.lst (ns.map .int)),lT rows,sF (.int n),none,none,none,none]=_ from jK (ds:=ds) ?_ e) (aw rfl))))⟩
 ·rw[←hn];refine dN (.int (c1 / 3)) (.int ((M.length:Int)+1)) (kh (oD [.lst (ns.map .int),.int 1] (cA rfl rfl) e1) (by decide) (by decide)) (dN (.int M.length) (.int 1) (oD [.lst rows] (cA rfl rfl) (by rw[gN,vI])) rfl rfl) (sw _ Dc)
 ·have e1:kA (af 1) cC (bR (af 2)) [sF (.lst (ns.map .int)),sF (.lst rows),sF (.int n),none,none,none,none]=some (.lst ((M.take n).map Rw.d),true):=by
   have:=Ma;simp[rows]at this ⊢;exact this
  have e2:fA aY (ac (af 1) (ac (kA (af 1) cC (bR (af 2))) (ac (fA aY ai) ai))) [sF (.lst (ns.map .int)),sF (.lst rows),sF (.int n),none,none,none,none]=lT ds:=mO ds (cA rfl (a8 e1 (a8 (b:=true) (by simp[sizeLine]) rfl)));show Option.bind (fA aY (ac (af 1) (ac (kA (af 1) cC (bR (af 2))) (ac (fA aY ai) ai))) [sF (.lst (ns.map .int)),sF (.lst rows),sF (.int n),none,none,none,none]) _=_;rw[e2];rfl
end Lw
namespace Lw
open PySem PySem.Spec PyProof.Rows L2 DL
noncomputable def eT (i:Nat):Stmt:=PySem.Challenge.pw_sealchain_k48_registers_written_and_read.main.body.getD i (.Pass ⟨0,0,0,0⟩)
structure Tx (w:World)(K:Frag)(mg:Str->Option Value):Prop where
 hX:∃h,K.In h/\h.Ns mainGlobals mg
 d0:dw K "is_whole" (eT 7)
 d1:dw K "is_day" (eT 8)
 d2:dw K "is_stretch" (eT 9)
 d3:dw K "is_matters" (eT 10)
 d4:dw K "is_name" (eT 20)
 d5:dw K "is_rule" (eT 22)
 d6:dw K "is_piece" (eT 21)
 d7:dw K "is_pieces" (eT 23)
 d8:dw K "is_change" (eT 24)
 d9:dw K "is_changes" (eT 25)
 d10:dw K "is_part" (eT 26)
 d11:dw K "is_deed" (eT 27)
 d12:dw K "word_of" (eT 30)
 d13:dw K "part_of" (eT 31)
 d14:dw K "day_of" (eT 32)
 d15:dw K "is_timely" (eT 28)
 d16:dw K "is_row" (eT 29)
 d17:dw K "root_offices" (eT 37)
 d18:dw K "is_second_root" (eT 38)
 d19:dw K "parts_in" (eT 33)
 d20:dw K "people_in" (eT 34)
 d21:dw K "count_people" (eT 39)
 d22:dw K "is_refused" (eT 40)
 d23:dw K "register_of" (eT 41)
 d24:dw K "is_figures" (eT 47)
 d25:dw K "number_of" (eT 48)
 d26:dw K "listed" (eT 11)
 d27:dw K "letters_of" (eT 49)
 d28:dw K "matters_of" (eT 50)
 d29:dw K "stop_of" (eT 51)
 d30:dw K "changes_of" (eT 52)
 d31:dw K "value_of" (eT 53)
 d32:dw K "count_words" (eT 54)
 d33:dw K "deed_of" (eT 55)
 d34:dw K "row_of" (eT 56)
 d35:dw K "read" (eT 57)
 d36:dw K "words_of" (eT 58)
 d37:dw K "line_of" (eT 59)
 d38:dw K "shown" (eT 60)
 d39:dw K "_law_cell" (eT 62)
 d40:dw K "_law_names" (eT 63)
 d41:dw K "_law_changes" (eT 64)
 d42:dw K "_law_deed" (eT 65)
 d43:dw K "_law_rows" (eT 66)
 d44:dw K "_law_part" (eT 67)
 d45:dw K "_law_line" (eT 68)
 d46:dw K "_law_same" (eT 69)
 d47:dw K "law" (eT 70)
 n0:mg "all" = none
 n1:mg "bool" = none
 n2:mg "enumerate" = none
 n3:mg "int" = none
 n4:mg "isinstance" = none
 n5:mg "len" = none
 n6:mg "list" = none
 n7:mg "min" = none
 n8:mg "range" = none
 n9:mg "set" = none
 n10:mg "sorted" = none
 n11:mg "str" = none
 n12:mg "tuple" = none
 n13:mg "zip" = none
 k0:KC K mg "ALL_MATTERS" iZ
 k1:KC K mg "LAST_DAY" mx
 k2:KC K mg "MATTER_LETTERS" dS
 k3:KC K mg "MOST_FIGURES" io
 k4:KC K mg "MOST_FURTHER" ip
 k5:KC K mg "MOST_LETTERS" iq
 k6:KC K mg "MOST_PEOPLE" jd
 k7:KC K mg "MOST_PIECES" ej
 k8:KC K mg "MOST_ROWS" eE
 k9:KC K mg "NOTHING" cx
 k10:KC K mg "NUMBER_PARTS" aV
 k11:KD w K mg "PARTS" aO
 k12:KC K mg "PERSON_PARTS" cR
 k13:KC K mg "RULES" vF
section
variable {P:Program}{w:World}{K:Frag}{mg:Str->Option Value}{base:Heap}(T:Tx w K mg)
include T
theorem f0:Fn P w K mg base 1 "is_whole" dn:=T.d0.fq T.hX my ["thing","least","most"] 3 λnd hr hu=>
  (aU (fg (av aE T.n4 aC (aA 0 (ag (df T.n3 ve) ah))) (fg (yU (av aE T.n4 aC (aA 0 (ag (df T.n1 zc) ah)))) (eI (lV gk gk (ae 1) (ae 0) (ae 2))))))
theorem f1:Fn P w K mg base 2 "is_day" fB:=T.d1.fq T.hX rM ["thing"] 1 λnd hr hu=>
  (aU (b7 (f0 T) hr (aA 0 (cD (ag (bw T.k1) ah)))))
theorem f2:Fn P w K mg base 3 "is_stretch" dH:=T.d2.fq T.hX jN ["thing"] 1 λnd hr hu=>
  (aj (ba (fK (cP (bZ (bN (av aE T.n4 aC (aA 0 (ag (df T.n12 bV) ah))))) (cP (ax (nv hu) (av c8 T.n5 cm (aA 0 ah)) al) (c9 (bZ (bN (b7 (f1 T) hr (ag (bj 0) ah)))))))) eL)
   (aU (uD (dm tu (bj 0) cF) (eI (fg (b7 (f1 T) hr (ag (bj 0) ah)) (eI (dm nW (bj 0) (bj 0))))))))
theorem f3:Fn P w K mg base 2 "is_matters" eO:=T.d3.fq T.hX jO ["thing"] 1 λnd hr hu=>
  (aU (b7 (f0 T) hr (aA 0 (cD (ag (bw T.k0) ah)))))
theorem f4:Fn P w K mg base 1 "is_name" eW:=T.d4.fq T.hX oE ["thing"] 1 λnd hr hu=>
  (aj (ba (fK (cP (bZ (bN (av aE T.n4 aC (aA 0 (ag (df T.n11 gn) ah))))) (c9 (bZ (lW gk gk al (av c8 T.n5 cm (aA 0 ah)) (bw T.k5)))))) eL)
   (aU (av nY T.n0 nX (ag (eB ["sign"] (cr (ae 0)) cO (lV gk gk aq (ae 0) aq)) ah))))
theorem f5:Fn P w K mg base 1 "is_rule" oG:=T.d5.fq T.hX oF ["thing"] 1 λnd hr hu=>
  (aU (fg (av aE T.n4 aC (aA 0 (ag (df T.n11 gn) ah))) (eI (dm va (ae 0) (bw T.k13)))))
theorem f6:Fn P w K mg base 2 "is_piece" fD:=T.d6.fq T.hX mz ["thing"] 1 λnd hr hu=>
  (aU (aZ (f4 T) hr))
theorem f7:Fn P w K mg base 3 "is_pieces" fQ:=T.d7.fq T.hX kW ["thing"] 1 λnd hr hu=>
  (aj (ba (fK (cP (bZ (bN (av aE T.n4 aC (aA 0 (ag (df T.n12 bV) ah))))) (c9 (bZ (lW gk gk al (av c8 T.n5 cm (aA 0 ah)) (bw T.k7)))))) eL)
   (aU (av nY T.n0 nX (ag (eB ["piece"] (cr (ae 0)) cO (aZ (f6 T) hr)) ah))))
theorem f8:Fn P w K mg base 3 "is_change" eF:=T.d8.fq T.hX kX ["thing"] 1 λnd hr hu=>
  (aj (ba (fK (cP (bZ (bN (av aE T.n4 aC (aA 0 (ag (df T.n12 bV) ah))))) (c9 (ax (nv hu) (av c8 T.n5 cm (aA 0 ah)) al)))) eL)
   (aU (fg (b7 (f0 T) hr (ag (bj 0) (cD (ag (ar yW (bw T.k7) al) ah)))) (eI (b7 (f6 T) hr (ag (bj 0) ah))))))
theorem f9:Fn P w K mg base 4 "is_changes" gO:=T.d9.fq T.hX jP ["thing","places"] 1 λnd hr hu=>
  (aj (ba (fK (cP (bZ (bN (av aE T.n4 aC (aA 0 (ag (df T.n12 bV) ah))))) (c9 (bZ (bN (av nY T.n0 nX (ag (eB ["change"] (cr (ae 0)) cO (aZ (f8 T) hr)) ah))))))) eL)
   (aj (o6 ["change"] nd (cr (ae 0)) cO (bj 0))
   (aU (av nY T.n0 nX (ag (eB ["place","later"] (zo T.n13 (ae 1) (bO (ae 1) (cj al) cJ)) cO (dm nW (ae 0) (ae 1))) ah)))))
theorem f10:Fn P w K mg base 5 "is_part" bg:=T.d10.fq T.hX oH ["part","thing"] 2 λnd hr hu=>
  (aj (ba (fK (cP (ax (bL hu) (ae 0) aq) (c9 (ax (bL hu) (ae 0) aq)))) (aZ (f1 T) hr))
   (aj (ba (fK (cP (ax (bL hu) (ae 0) aq) (cP (ax (bL hu) (ae 0) aq) (c9 (ax (bL hu) (ae 0) aq))))) (aZ (f4 T) hr))
   (aj (ba (ax (bL hu) (ae 0) aq) (uD (dm tu (ae 1) cF) (eI (aZ (f4 T) hr))))
   (aj (ba (ax (bL hu) (ae 0) aq) (aZ (f3 T) hr))
   (aj (ba (ax (bL hu) (ae 0) aq) (aZ (f2 T) hr))
   (aj (ba (ax (bL hu) (ae 0) aq) (b7 (f0 T) hr (aA 1 (cD (ag (bw T.k4) ah)))))
   (aj (ba (ax (bL hu) (ae 0) aq) (aZ (f5 T) hr))
   (aj (ba (ax (bL hu) (ae 0) aq) (b7 (f0 T) hr (aA 1 (cD (ag (ar yW (bw T.k8) al) ah)))))
   (aj (ba (ax (bL hu) (ae 0) aq) (aZ (f7 T) hr))
   (aU (aZ (f9 T) hr)))))))))))
theorem f11:Fn P w K mg base 6 "is_deed" kF:=T.d11.fq T.hX oI ["thing"] 1 λnd hr hu=>
  (aj (ba (fK (cP (bZ (bN (av aE T.n4 aC (aA 0 (ag (df T.n12 bV) ah))))) (cP (ax (bL hu) (av c8 T.n5 cm (aA 0 ah)) al) (c9 (bZ (bN (av aE T.n4 aC (ag (bj 0) (ag (df T.n11 gn) ah))))))))) eL)
   (aj (ba (fK (cP (ot T.k11 (bj 0)) (c9 (ax (nv hu) (av c8 T.n5 cm (aA 0 ah)) (ar be al (av c8 T.n5 cm (ag (lw T.k11 (bj 0)) ah))))))) eL)
   (aU (av nY T.n0 nX (ag (eB ["part","value"] (zo T.n13 (lw T.k11 (bj 0)) (bO (ae 0) (cj al) cJ)) cO (aZ (f10 T) hr)) ah)))))
theorem FD:Fn P w K mg base 1 "word_of" bE:=T.d12.fq T.hX oJ ["row"] 1 λnd hr hu=>
  (aU (ca (bj 0) al))
theorem Jz:Fn P w K mg base 2 "part_of" du:=T.d13.fq T.hX oK ["row","part"] 2 λnd hr hu=>
  (aU (ca (bj 0) (ar be al (Cg T.k11 (aZ (FD T) hr) (ae 1)))))
theorem NU:Fn P w K mg base 3 "day_of" jQ:=T.d14.fq T.hX rN ["row"] 1 λnd hr hu=>
  (aj (ba (ax (bL hu) (aZ (FD T) hr) aq) cF)
   (aU (aZ (Jz T) hr)))
theorem NV:Fn P w K mg base 4 "is_timely" ir:=T.d15.fq T.hX kY ["row","day"] 1 λnd hr hu=>
  (aj (aL nd (aZ (NU T) hr))
   (aj (ba (ax tu (ae 1) cF) eL)
   (aj (ba (fK (tq (ax (bL hu) (aZ (FD T) hr) aq) (pE (ax nW (aZ (Jz T) hr) (ae 1))))) eL)
   (aU (dm gk (ae 1) (bj 0))))))
theorem Ms:Fn P w K mg base 7 "is_row" jR:=T.d16.fq T.hX rO ["thing"] 1 λnd hr hu=>
  (aj (ba (fK (cP (bZ (bN (av aE T.n4 aC (aA 0 (ag (df T.n12 bV) ah))))) (c9 (ax (nv hu) (av c8 T.n5 cm (aA 0 ah)) al)))) eL)
   (aU (fg (b7 (f1 T) hr (ag (bj 0) ah)) (fg (b7 (f11 T) hr (ag (bj 0) ah)) (eI (aZ (NV T) hr))))))
theorem NW:Fn P w K mg base 3 "root_offices" fE:=T.d17.fq T.hX iu ["rows"] 1 λnd hr hu=>
  (aU (eB ["row"] (cr (ae 0)) (ku (ax (bL hu) (aZ (FD T) hr) aq)) (aZ (Jz T) hr)))
theorem NX:Fn P w K mg base 4 "is_second_root" dU:=T.d18.fq T.hX gy ["ahead","row"] 2 λnd hr hu=>
  (aU (fg (dm (bL hu) (aZ (FD T) hr) aq) (eI (dm va (aZ (Jz T) hr) (aZ (NW T) hr)))))
theorem Mt:Fn P w K mg base 2 "parts_in" cS:=T.d19.fq T.hX m3 ["row"] 1 λnd hr hu=>
  (aU (tP rfl T.n6 T.n13 (lw T.k11 (aZ (FD T) hr)) (bO (bj 0) (cj al) cJ)))
theorem NY:Fn P w K mg base 3 "people_in" eG:=T.d20.fq T.hX kZ ["row","names"] 1 λnd hr hu=>
  (aj (o6 ["part","value"] nd (cr (aZ (Mt T) hr)) (ku (fK (tq (ax va (ae 0) (bw T.k12)) (pE (ax BV (ae 1) cF))))) (ae 1))
   (aU (tL rfl T.n10 T.n9 (ae 1))))
theorem NZ:Fn P w K mg base 4 "count_people" fF:=T.d21.fq T.hX iz ["rows","names","row"] 1 λnd hr hu=>
  (aj (aL nd (bK ah))
   (aj (o7 (cr (ae 0)) (tQ 2 nd) eY (bF (zu (i:=1) (aZ (NY T) hr))))
   (aU (xn rfl T.n5 T.n9 (ae 1)))))
theorem Oa:Fn P w K mg base 8 "is_refused" gP:=T.d22.fq T.hX jS ["book","place"] 2 λnd hr hu=>
  (aj (ba (fK (cP (ax Kv (ae 1) (bw T.k8)) (c9 (bZ (bN (b7 (Ms T) hr (ag (ca (ae 0) (ae 1)) ah))))))) eL)
   (aU (uD (b7 (NX T) hr (ag (bO (ae 0) cJ (cj (ae 1))) (ag (ca (ae 0) (ae 1)) ah))) (eI (dm BO (b7 (NZ T) hr (ag (bO (ae 0) cJ (cj (ar be (ae 1) al))) ah)) (bw T.k6))))))
theorem KJ:Fn P w K mg base 9 "register_of" cE:=T.d23.fq T.hX je ["rows","book","place"] 1 λnd hr hu=>
  (aj (gZ (bZ (bN (av xr T.n4 aC (aA 0 (ag (bS (ag (df T.n6 ky) (ag (df T.n12 bV) ah))) ah))))) (bF jC) fj)
   (aj (aL nd (aR fP T.n12 bV (aA 0 ah)))
   (aj (vx (jA T.n8 (av c8 T.n5 cm (aA 1 ah))) (tQ 2 nd) eY (bF (gZ (bN (aZ (Oa T) hr)) (bF jC) fj)))
   (bF (pF 1)))))
theorem Ob:Fn P w K mg base 1 "is_figures" eP:=T.d24.fq T.hX jT ["word"] 1 λnd hr hu=>
  (aj (ba (fK (cP (bZ (lW gk gk al (av c8 T.n5 cm (aA 0 ah)) (bw T.k3))) (c9 (bZ (bN (av nY T.n0 nX (ag (eB ["sign"] (cr (ae 0)) cO (lV gk gk aq (ae 0) aq)) ah))))))) eL)
   (aU (uD (dm (bL hu) (ae 0) aq) (eI (dm (nv hu) (bj 0) aq)))))
theorem Io:Fn P w K mg base 2 "number_of" bW:=T.d25.fq T.hX la ["word"] 1 λnd hr hu=>
  (aU (j9 (bN (aZ (Ob T) hr)) (aR Fj T.n3 ve (aA 0 ah)) (Ht HF al)))
theorem Oc:Fn P w K mg base 1 "listed" rQ:=T.d26.fq T.hX rP ["matters"] 1 λnd hr hu=>
  (aU (eB ["k","matters"] (ie T.n8 (BY (ae 0))) (ku (ax (bL hu) (ar HB (ar HA (ae 1) (ae 0)) al) al)) (ae 0)))
theorem Mu:Fn P w K mg base 2 "letters_of" eQ:=T.d27.fq T.hX jU ["matters"] 1 λnd hr hu=>
  (aU (fX PySem.F.slot_str_join PySem.F.type_str_join ij eA aq (eB ["k"] (cr (aZ (Oc T) hr)) cO (ca (bw T.k2) (ae 0)))))
theorem Od:Fn P w K mg base 3 "matters_of" gQ:=T.d28.fq T.hX jV ["word","matters","k","letter"] 1 λnd hr hu=>
  (aj (aL nd al)
   (aj (o7 (zV T.n2 (bw T.k2)) (lH rfl (cB (tQ 2 nd) (cB (tQ 3 nd) iD))) zk (bF (gZ (ax Ie (ae 3) (ae 0)) (bF (aL nd (ar K6 (ae 1) (ar Ib al (ae 2))))) fj)))
   (aU (j9 (ax (bL hu) (aZ (Mu T) hr) (ae 0)) (ae 1) al))))
theorem Oe:Fn P w K mg base 3 "stop_of" kG:=T.d29.fq T.hX oM ["word"] 1 λnd hr hu=>
  (aU (j9 (ax (bL hu) (ae 0) (bw T.k9)) cF (aZ (Io T) hr)))
theorem Of:Fn P w K mg base 3 "changes_of" gR:=T.d30.fq T.hX jW ["words","pairs"] 1 λnd hr hu=>
  (aj (o6 ["k","words"] nd (xC T.n8 al (av c8 T.n5 cm (aA 0 ah)) al) cO (bO (ae 1) (cj (ae 0)) (cj (ar be (ae 0) al))))
   (aU (aR fP T.n12 bV (ag (eB ["pair"] (cr (ae 1)) cO (aR fP T.n12 bV (ag (ar be (bK (ag (b7 (Io T) hr (ag (bj 0) ah)) ah)) (bO (ae 0) (cj al) cJ)) ah))) ah))))
theorem Og:Fn P w K mg base 4 "value_of" dW:=T.d31.fq T.hX m4 ["part","words"] 2 λnd hr hu=>
  (aj (ba (ax va (ae 0) (bw T.k10)) (b7 (Io T) hr (ag (bj 1) ah)))
   (aj (ba (ax (bL hu) (ae 0) aq) (b7 (Od T) hr (ag (bj 1) ah)))
   (aj (ba (ax (bL hu) (ae 0) aq) (bS (ag (b7 (Io T) hr (ag (bj 1) ah)) (ag (b7 (Oe T) hr (ag (bj 1) ah)) ah))))
   (aj (ba (ax (bL hu) (ae 0) aq) (j9 (ax (bL hu) (bj 1) (bw T.k9)) cF (bj 1)))
   (aj (ba (ax (bL hu) (ae 0) aq) (aR fP T.n12 bV (aA 1 ah)))
   (aj (ba (ax (bL hu) (ae 0) aq) (aZ (Of T) hr))
   (aU (bj 1))))))))
theorem Oh:Fn P w K mg base 1 "count_words" dh:=T.d32.fq T.hX jf ["part","left"] 2 λnd hr hu=>
  (aj (ba (ax (bL hu) (ae 0) aq) al)
   (aj (ba (fK (cP (ax (bL hu) (ae 0) aq) (c9 (ax (bL hu) (ae 0) aq)))) (av c8 T.n5 cm (aA 1 ah)))
   (aU al)))
theorem Oi:Fn P w K mg base 5 "deed_of" kH:=T.d33.fq T.hX oN ["words","deed","left","part","count"] 1 λnd hr hu=>
  (aj (aL nd (bO (ae 0) cJ (cj al)))
   (aj (aL nd (bO (ae 0) (cj al) cJ))
   (aj (o7 (cr (lw T.k11 (bj 0))) (tQ 3 nd) eY (aj (aL nd (aZ (Oh T) hr))
   (aj (ba (ax BO (ae 4) (av c8 T.n5 cm (aA 2 ah))) cF)
   (aj (lY (i:=1) (b7 (Og T) hr (aA 3 (ag (bO (ae 2) cJ (cj (ae 4))) ah))))
   (bF (aL nd (bO (ae 2) (cj (ae 4)) cJ)))))))
   (aU (j9 (ax (bL hu) (av c8 T.n5 cm (aA 2 ah)) al) (aR fP T.n12 bV (aA 1 ah)) cF)))))
theorem Oj:Fn P w K mg base 8 "row_of" jX:=T.d34.fq T.hX rR ["line","words","row"] 1 λnd hr hu=>
  (aj (aL nd (fX PySem.F.slot_str_split PySem.F.type_str_split vy o9 (ae 0) aq))
   (aj (ba (fK (cP (ax nW (av c8 T.n5 cm (aA 1 ah)) al) (c9 (ot T.k11 (bj 1))))) cF)
   (aj (aL nd (bS (ag (b7 (Io T) hr (ag (bj 1) ah)) (ag (b7 (Oi T) hr (ag (bO (ae 1) (cj al) cJ) ah)) ah))))
   (aU (j9 (bN (aZ (Ms T) hr)) (ae 2) cF)))))
theorem Ol:Fn P w K mg base 10 "read" tV:=T.d35.fq T.hX zY ["text","lines","rows"] 1 λnd hr hu=>
  (aj (gZ (bZ (bN (av aE T.n4 aC (aA 0 (ag (df T.n11 gn) ah))))) (bF jC) fj)
   (aj (aL nd (j9 (ax (nv hu) (ae 0) aq) (fX PySem.F.slot_str_split PySem.F.type_str_split vy o9 (ae 0) aq) (bK ah)))
   (aj (o6 ["line"] nd (cr (ae 1)) cO (aZ (Oj T) hr))
   (aj (gZ (ax (Ih hu) cF (ae 2)) (bF jC) fj)
   (aU (aZ (KJ T) hr))))))
theorem Om:Fn P w K mg base 3 "words_of" cT:=T.d36.fq T.hX m5 ["part","value","ends"] 2 λnd hr hu=>
  (aj (ba (ax (bL hu) (ae 0) aq) (bK (ag (aZ (Mu T) hr) ah)))
   (aj (ba (ax (bL hu) (ae 0) aq) (aR pK T.n6 ky (aA 1 ah)))
   (aj (gZ (fK (cP (ax (bL hu) (ae 0) aq) (c9 (ax (bL hu) (ae 0) aq)))) (aj (aL nd (j9 (ax (bL hu) (ae 0) aq) (ae 1) (bS (aA 1 ah))))
   (aU (eB ["each"] (cr (ae 2)) cO (j9 (ax tu (ae 0) cF) (bw T.k9) (aR mm T.n11 gn (aA 0 ah)))))) fj)
   (aj (ba (ax (bL hu) (ae 0) aq) (eB ["place","piece"] (cr (ae 1)) cO (Fk (ae 0) (ae 1))))
   (aU (bK (ag (aR mm T.n11 gn (aA 1 ah)) ah)))))))
theorem Oo:Fn P w K mg base 4 "line_of" iJ:=T.d37.fq T.hX oP ["row","words","part","value"] 1 λnd hr hu=>
  (aj (aL nd (bK (ag (aR mm T.n11 gn (ag (bj 0) ah)) (ag (aZ (FD T) hr) ah))))
   (aj (o7 (cr (aZ (Mt T) hr)) (lH rfl (cB (tQ 2 nd) (cB (tQ 3 nd) iD))) zk (bF (zu (i:=1) (aZ (Om T) hr))))
   (aU (fX PySem.F.slot_str_join PySem.F.type_str_join ij eA aq (ae 1)))))
theorem Mv:Fn P w K mg base 5 "shown" l7:=T.d38.fq T.hX vL ["book"] 1 λnd hr hu=>
  (aU (fX PySem.F.slot_str_join PySem.F.type_str_join ij eA aq (eB ["row"] (cr (ae 0)) cO (aZ (Oo T) hr))))
theorem Ip:Fn P w K mg base 1 "_law_cell" bX:=T.d39.fq T.hX rS ["_law_script","_law_k","_law_number"] 2 λnd hr hu=>
  (aj (ba (ax nW (ae 1) (av c8 T.n5 cm (aA 0 ah))) (ca (ae 0) (ae 1)))
   (aj (aL nd (ar be (ar jk al (ae 1)) al))
   (aj (gZ (ax BO (av c8 T.n5 cm (aA 0 ah)) al) (bF (aL nd (ar be (ar be (ar jk (ca (ae 0) (ar bt (ar jk (ae 1) al) (av c8 T.n5 cm (aA 0 ah)))) al) (ar jk (ar jk (ae 1) (ae 1)) al)) al))) fj)
   (aU (ar bt (ar Fh (ae 2) (ae 2)) al)))))
theorem Op:Fn P w K mg base 1 "_law_names" kI:=T.d40.fq T.hX oQ ["_law_cell_here","_law_letters","_law_base","_law_at","_law_names_here","_law_k","_law_name"] 1 λnd hr hu=>
  (aj (aL nd aq)
   (aj (o6 ["_law_k","_law_letters","_law_cell_here"] nd (ie T.n8 (ar be al (ar bt (ae 0) al))) cO (ca (ae 1) (ar bt (ar bo (ae 2) (ar be al (ar jk al (ae 0)))) al)))
   (aj (aL nd (ar bt (ar bo (ae 0) al) (av c8 T.n5 cm (aA 2 ah))))
   (aj (aL nd (bK ah))
   (aj (vx (jA T.n8 al) (tQ 5 nd) eY (aj (aL nd (aR pK T.n6 ky (aA 2 ah)))
   (aj (Fd (i:=6) (ca (ae 1) (ar bt (ar be (ar bo (ae 0) al) (ar jk al (ae 5))) al)) (ae 3))
   (bF (lY (i:=4) (fX PySem.F.slot_str_join PySem.F.type_str_join ij eA aq (ae 6)))))))
   (aj (ba (ax (bL hu) (ar bt (ar bo (ae 0) al) al) al) (bK (ag aq (ag aq (ag aq (ag aq (ag aq (ag aq ah))))))))
   (bF (pF 4))))))))
theorem Oq:Fn P w K mg base 1 "_law_changes" i6:=T.d41.fq T.hX lb ["_law_cell_here","_law_names_here","_law_places"] 2 λnd hr hu=>
  (aj (o6 ["_law_k","_law_cell_here"] nd (ie T.n8 al) (ku (ax (bL hu) (ar bt (ar bo (ae 1) (ca (bS (cD (cD (cD (cD (cD (cD (cD (cD ah))))))))) (ae 0))) al) al)) (ae 0))
   (aU (aR fP T.n12 bV (ag (eB ["_law_place","_law_names_here","_law_cell_here"] (cr (ae 2)) cO (bS (aA 0 (ag (ca (ae 1) (ar bt (ar be (ae 2) (ae 0)) al)) ah)))) ah))))
theorem Ot:Fn P w K mg base 2 "_law_deed" gz:=T.d42.fq T.hX rT ["_law_cell_here","_law_k","_law_day","_law_names_here","_law_stretch","_law_one","_law_two","_law_matters","_law_whom","_law_some","_law_pieces"] 4 λnd hr hu=>
  (aj (aL nd (bS (ag (ar bt (ar bo (ae 0) al) (ca (bK (cD (cD ah))) (ar bt (ar bo (ae 0) al) al))) (ag cF ah))))
   (aj (gZ (ax (bL hu) (ar bt (ar bo (ae 0) al) al) al) (bF (aL nd (bS (ag (bj 4) (ag (av vf T.n7 vc (cD (ag (ar be (ar be (bj 4) al) (ar bt (ar bo (ae 0) al) al)) ah))) ah))))) fj)
   (aj (aL nd (ca (ae 3) (ar bt (ar bo (ae 0) al) al)))
   (aj (aL nd (ca (ae 3) (ar bt (ar bo (ae 0) al) al)))
   (aj (aL nd (ar be al (ar bt (ar bo (ae 0) al) al)))
   (aj (aL nd (ca (bK (ag cF (aA 6 ah))) (ar bt (ae 0) al)))
   (aj (aL nd (bK (ag (bS (ag aq (aA 2 (ag (bj 3) (aA 5 ah))))) (ag (bS (ag aq (aA 2 (aA 5 (ag (bj 3) (aA 6 (ag (av vf T.n7 vc (cD (ag (ar be (ae 2) (ar bt (ar bo (ae 0) al) al)) ah))) ah))))))) ah))))
   (aj (aL nd (ar be (ae 9) (bK (ag (bS (ag aq (aA 2 (aA 5 (ag (bj 3) (aA 6 ah)))))) (ag (bS (ag aq (aA 2 (aA 5 ah)))) (ag (bS (ag aq (aA 2 (aA 5 ah)))) (ag (bS (ag aq (aA 2 (aA 6 ah)))) ah)))))))
   (aj (aL nd (ar be (ae 9) (bK (ag (bS (ag aq (aA 2 (aA 5 (aA 6 (aA 7 (aA 4 (ag (ar bt (ar bo (ae 0) al) al) ah)))))))) ah))))
   (aj (aL nd (aR fP T.n12 bV (ag (ar be (bO (ae 3) cJ (cj (ar be al (ar bt (ar bo (ae 0) al) al)))) (bO (ae 3) cJ (cj (ar bt (ar bo (ae 0) al) al)))) ah)))
   (aj (aL nd (ar be (ae 9) (bK (ag (bS (ag aq (aA 2 (aA 5 (aA 7 (aA 4 (aA 8 (aA 10 ah)))))))) ah))))
   (aj (aL nd (ar be (ae 9) (bK (ag (bS (ag aq (aA 2 (aA 5 (aA 7 (aA 4 (aA 8 (ag (ar bt (ar bo (ae 0) al) al) (ag (b7 (Oq T) hr (ag (ar bo (ae 0) al) (aA 3 ah))) ah))))))))) ah))))
   (aU (ca (ar be (ae 9) (bK (ag (bS (ag aq (aA 2 (aA 6 (ag (ar bt (ar bo (ae 0) al) al) ah))))) (ag (bS (ag aq (aA 2 (aA 5 (ag (ar bt (ar bo (ae 0) al) al) ah))))) ah)))) (ae 1)))))))))))))))
theorem Ou:Fn P w K mg base 3 "_law_rows" m7:=T.d43.fq T.hX rV ["_law_script","_law_names_here","_law_rows_here","_law_k","_law_cell_here","_law_day","_law_deed_here"] 1 λnd hr hu=>
  (aj (aL nd (b7 (Op T) hr (ag (b7 (Ip T) hr (aA 0 (cD ah))) ah)))
   (aj (aL nd (bK ah))
   (aj (vx (jA T.n8 (ca (bK (ag (av vf T.n7 vc (cD (ag (ar be (av c8 T.n5 cm (aA 0 ah)) al) ah))) (cD ah))) (ar bt (ar bo (b7 (Ip T) hr (aA 0 (cD ah))) al) al))) (tQ 3 nd) eY (aj (aL nd (ar bt (b7 (Ip T) hr (aA 0 (ag (ar be al (ae 3)) ah))) (ar Hz al al)))
   (aj (aL nd (ar bt (ar bo (ae 4) al) (ca (bK (cD (cD (cD ah)))) (ar bt (b7 (Ip T) hr (aA 0 (cD ah))) al))))
   (aj (aL nd (bS (ag aq (ag (ca (ae 1) (ar be al (ar bt (ae 3) al))) (ag (ar be al (ar bt (ar bo (ae 4) al) al)) (ag (ar bt (ar bo (ae 4) al) al) (ag (ca (bK (ag aq (ag aq (ag aq ah)))) (ar bt (ar bo (ae 4) al) al)) ah)))))))
   (aj (gZ (fK (cP (ax BO (ae 3) al) (c9 (ax nW (ar bt (ae 4) al) al)))) (bF (aL nd (b7 (Ot T) hr (ag (ar bo (ae 4) al) (ag (ar bt (ae 4) al) (aA 5 (aA 1 ah))))))) fj)
   (bF (lY (i:=2) (bS (ag (av vf T.n7 vc (cD (ag (ar be (ae 5) (ca (bK (cD (cD (cD (ag (ar bt (ar bo (ae 4) al) al) ah))))) (ar bt (ar bo (ae 4) al) al))) ah))) (aA 6 ah))))))))))
   (bF (pF 2)))))
theorem Mw:∀n,Fn P w K mg base (1+n) "_law_part" (bI n)
 |0=>T.d44.fq (k:=0) T.hX fY ["_law_sort","_law_part_here"] 2 λnd hr hu=>oA
 |n+1=>T.d44.fq (k:=1+n) T.hX (rW (bI n)) ["_law_sort","_law_part_here"] 2 λnd hr hu=>
  (aj (ba (ax (bL hu) (ae 0) aq) (fX PySem.F.slot_str_join PySem.F.type_str_join ij eA aq (eB ["_law_k","_law_part_here"] (ie T.n8 al) (ku (ax (bL hu) (ar bt (ar bo (ae 1) (ca (bS (cD (cD (cD (cD (cD (cD (cD (cD ah))))))))) (ae 0))) al) al)) (ca aq (ae 0)))))
   (aj (ba (ax (bL hu) (ae 0) aq) (ar be (ar be (aR mm T.n11 gn (ag (bj 1) ah)) aq) (b7 (hj:=by omega) (Mw n) hr (ag aq (ag (bj 1) ah)))))
   (aj (ba (ax tu (ae 1) cF) aq)
   (aj (ba (ax (bL hu) (ae 0) aq) (fX PySem.F.slot_str_join PySem.F.type_str_join ij eA aq (ae 1)))
   (aU (aR mm T.n11 gn (aA 1 ah)))))))
theorem Ov:Fn P w K mg base 8 "_law_line" i7:=T.d45.fq T.hX rX ["_law_row","_law_noted","_law_deed_here","_law_sorts","_law_parts","_law_some","_law_k","_law_place","_law_piece"] 1 λnd hr hu=>
  (aj (Cd (is:=[1,2]) (ae 0) (Fc rfl (cB (tQ 1 nd) (cB (tQ 2 nd) iD))))
   (aj (Cj (i:=3) nd (jH aq aq (jH aq aq (jH aq aq (jH aq aq Ci)))))
   (aj (aL nd (bK (ag (aR mm T.n11 gn (aA 1 ah)) (ag (bj 2) ah))))
   (aj (aL nd (zR (NP hu) (ae 3) (bj 2) aq ⟨rfl,rfl,rfl,rfl⟩))
   (aj (vx (xp T.n8 al (av c8 T.n5 cm (aA 2 ah))) (tQ 6 nd) eY (bF (gZ (fK (tq (ax (bL hu) (bj 2) aq) (pE (ax (bL hu) (ae 6) al)))) (bF (Dz [2] (o7 (cr (bj 2)) (lH rfl (cB (tQ 7 nd) (cB (tQ 8 nd) iD))) zk (bF (lY (i:=4) (ar be (ar be (aR mm T.n11 gn (aA 7 ah)) aq) (ae 8))))))) (bF (lY (i:=4) (b7 ((Mw T) 6) hr (ag (ca (ae 5) (ar yW (ae 6) al)) (ag (ca (ae 2) (ae 6)) ah))))))))
   (aU (fX PySem.F.slot_str_join PySem.F.type_str_join ij eA aq (ae 4))))))))
theorem Mx:∀n,Fn P w K mg base (1+n) "_law_same" (g6 n)
 |0=>T.d46.fq (k:=0) T.hX fY ["_law_found","_law_due"] 2 λnd hr hu=>oA
 |n+1=>T.d46.fq (k:=1+n) T.hX (rY (g6 n)) ["_law_found","_law_due"] 2 λnd hr hu=>
  (aj (gZ (bN (av aE T.n4 aC (aA 1 (ag (df T.n12 bV) ah)))) (aj (ba (fK (cP (bZ (bN (av aE T.n4 aC (aA 0 (ag (df T.n12 bV) ah))))) (c9 (ax (nv hu) (av c8 T.n5 cm (aA 0 ah)) (av c8 T.n5 cm (aA 1 ah)))))) eL)
   (aU (dm (bL hu) (av c8 T.n5 cm (ag (eB ["_law_k","_law_found","_law_due"] (ie T.n8 (av c8 T.n5 cm (aA 1 ah))) (ku (bZ (bN (b7 (hj:=by omega) (Mx n) hr (ag (ca (ae 1) (ae 0)) (ag (ca (ae 2) (ae 0)) ah)))))) (ae 0)) ah)) al))) fj)
   (aj (ba (ax tu (ae 1) cF) (dm tu (ae 0) cF))
   (aj (ba (bN (av aE T.n4 aC (aA 1 (ag (df T.n3 ve) ah)))) (fg (av aE T.n4 aC (aA 0 (ag (df T.n3 ve) ah))) (fg (yU (av aE T.n4 aC (aA 0 (ag (df T.n1 zc) ah)))) (eI (dm (bL hu) (ae 0) (ae 1))))))
   (aU (fg (av aE T.n4 aC (aA 0 (ag (df T.n11 gn) ah))) (eI (dm (bL hu) (ae 0) (ae 1))))))))
theorem head {fa:Addr}(Lo:mg "law" = some (.ref fa)):∃fd:FuncData,(∀(s:Shared)(u:Value),BindsTo s fd ⟨[u],[]⟩ [("_law_script",u)])/\∀base:Heap,K.In base->base.Ns mainGlobals mg->ke P w K mg base sM 11 fa fd ["_law_script"] (BR K F_law):=by
 have S:FnScope ["_law_script","_law_rows_here","_law_least","_law_some","_law_text","_law_found","_law_told"] ["_law_script"] (aB (eT 70)):=by refine⟨rfl,rfl,rfl,?_,rfl,?_,?_⟩<;>decide +kernel
 have ⟨h,X,G⟩:=T.hX;exact dw.law T.d47 X G Lo S (λ_ _ _ _ _ _ u=>rfl) λbase kb nb f de A outer s H E hr=>have hu:=HE hr;have nd:=S.nd;(show pA _ _ D6 from
  (aj (aL nd (aZ (Ou T) hr))
   (aj (aL nd (ar bt (ar bo (b7 (Ip T) hr (aA 0 (cD ah))) al) (ar be (av c8 T.n5 cm (aA 1 ah)) al)))
   (aj (Dz [1,2] (o7 (cr (bK (aA 1 (ag (bO (ae 1) cJ (cj (ae 2))) (ag (bK ah) ah))))) (tQ 3 nd) eY (aj (aL nd (fX PySem.F.slot_str_join PySem.F.type_str_join ij eA aq (eB ["_law_row"] (cr (ae 3)) cO (aZ (Ov T) hr))))
   (aj (aL nd (aZ (Ol T) hr))
   (aj (ba (fK (cP (bZ (bN (b7 ((Mx T) 6) hr (aA 5 (ag (aR fP T.n12 bV (aA 3 ah)) ah))))) (c9 (ax (nv hu) (ae 5) (b7 (KJ T) hr (ag (aR pK T.n6 ky (aA 3 ah)) ah)))))) eL)
   (aj (aL nd (aZ (Mv T) hr))
   (bF (ba (fK (cP (bZ (bN (av aE T.n4 aC (aA 6 (ag (df T.n11 gn) ah))))) (cP (ax (nv hu) (ae 6) (ae 4)) (c9 (ax (nv hu) (b7 (Mv T) hr (ag (b7 (KJ T) hr (ag (aR pK T.n6 ky (aA 3 ah)) ah)) ah)) (ae 4)))))) eL))))))))
   (aU eL)))))
end
end Lw
end
namespace PySem.W.Fast
def tw3164207327568022856:=()
def tw15578200611175143451:=()
def tw2104736156472300685:=()
def tw13088555451645661650:=()
def tw5879871283134750103:=()
def tw2347761864702621148:=()
def tw7112548846906575743:=()
def tw118645627973408173:=()
def tw279455580040177138:=()
def tw7123186147966469395:=()
def tw7338822187848253111:=()
def tw3419255504286929912:=()
def tw8643646634778833879:=()
def tw16119155406126627566:=()
def tw7449062484711539889:=()
def tw18311551972136773009:=()
def tw7938574066266880332:=()
def tw9063286420735630853:=()
def tw17391235190066590713:=()
def tw17142188192103021994:=()
def tw10419656713215451426:=()
def tw17106697281224906155:=()
def tw14249405854710065674:=()
def tw14904741089224764922:=()
def tw16231114691760686406:=()
def tw1915550881069251477:=()
def tw306665285629310303:=()
def tw2485672663125473181:=()
def tw16761672232421257833:=()
def tw7074413653307599953:=()
def tw14672995386941670763:=()
def tw2279894787937822476:=()
def tw4697718664272912614:=()
def tw10507492381911755901:=()
def tw14576900367377257160:=()
def tw11691415046853626971:=()
def tw9837629699167528936:=()
def tw4271583269749962624:=()
def tw4716337266041891741:=()
def tw16132651805924113465:=()
def tw9624973244365331820:=()
def tw12516402639334401905:=()
def tw15452406773623075750:=()
def tw1101015221685618108:=()
def tw2583255745978059120:=()
def tw14173418875239816043:=()
def tw18159916311747699969:=()
def tw11240228132697239607:=()
def tw1362908680521626796:=()
def tw10837550317848449707:=()
def tw12859483292803730780:=()
def tw10239196192532611813:=()
def tw6664281041908199793:=()
def tw11495122240865482137:=()
def tw17063568550120896497:=()
def tw12253031230709218491:=()
def tw5641456142037040578:=()
def tw12289428915154036925:=()
def tw4891929014342905484:=()
def tw6898616220249606202:=()
def tw14276503981010512804:=()
def tw12356019654085865675:=()
def tw1154765818872385128:=()
def tw11661688454505138816:=()
def tw1551194649100092885:=()
def tw17854454871963978540:=()
def tw7421059582438504077:=()
def tw7199618706212659591:=()
def tw7484206757138746849:=()
def tw11301002742219551744:=()
def tw2645323825671568569:=()
def tw12147712676537966419:=()
def tw15930070568137363590:=()
def tw1914463873909820401:=()
def tw17831318292331973570:=()
def tw8866350029708638770:=()
def tw18186430510758864746:=()
def tw2692770246221362514:=()
def tw15466940848369896925:=()
def tw5551272630607446535:=()
def tw4710001698485102461:=()
def tw12873172632996898978:=()
def tw6762029806445177212:=()
def tw16616499070931474317:=()
def tw3828795270570415355:=()
def tw6587377900265379645:=()
def tw2240964038211302476:=()
def tw1151094244567983723:=()
def tw8430441969147736811:=()
def tw3557105237862411168:=()
def tw18438344260724672171:=()
def tw18176169173404526116:=()
def tw17298815728852522685:=()
def tw16309814827494577849:=()
def tw3956774197050476652:=()
def tw15012029775275973186:=()
def tw7939724384636100564:=()
def tw5119483541947440164:=()
def tw11373339637577664115:=()
def tw14401827673494374529:=()
def tw5878156295440065877:=()
def tw10616697143443896143:=()
def tw1302847995887637711:=()
def tw15399361508212832418:=()
def tw17168623299273937788:=()
def tw3033829085813140343:=()
def tw17659164152421070984:=()
def tw9390793644072871650:=()
def tw5265171696462496826:=()
end PySem.W.Fast
open PySem PySem.W PyProof.Rows
set_option maxRecDepth 100000 in
set_option maxHeartbeats 0 in
theorem PySem.Challenge.cw_sealchain_k48_registers_written_and_read_holds : PySem.Challenge.rw_sealchain_k48_registers_written_and_read.Holds := by
 w_on; o_law; k_head; (case hw => w_witness2)
 k_fill
 refine' DL.walkB (l := PySem.Challenge.rw_sealchain_k48_registers_written_and_read) (k := 11) (x := ("_law_script" : PySem.Str)) (f := Lw.F_law) (L := [(("in_order" : PySem.Str), ?t0), (("has_seal" : PySem.Str), ?t1), (("is_first_death" : PySem.Str), ?t2), (("bases_by" : PySem.Str), ?t3), (("as_heard" : PySem.Str), ?t4)]) rfl rfl ⟨rfl, by decide, by decide⟩ (fun w h Y => PySem.W.kIn_of Y) ?T ?D ?F Lw.law_true
 case T =>
  intro w
  refine' DL.tabs_fit ?h0 ?h1 ?h2 ?h3 ?h4 ?ap ?nt
  (case h0 => refine' DL.tab_no ?a; (case a => k_is))
  (case h1 => refine' DL.tab_no ?a; (case a => k_is))
  (case h2 => refine' DL.tab_no ?a; (case a => k_is))
  (case h3 => refine' DL.tab_no ?a; (case a => k_is))
  (case h4 => refine' DL.tab_no ?a; (case a => k_is))
  (case ap => decide)
  (case nt => kernel_rfl)
 case D => kernel_rfl
 case F =>
  intro w mg fa h KX G hmg
  refine' Lw.head ⟨⟨h, KX, G⟩, ?d0, ?d1, ?d2, ?d3, ?d4, ?d5, ?d6, ?d7, ?d8, ?d9, ?d10, ?d11, ?d12, ?d13, ?d14, ?d15, ?d16, ?d17, ?d18, ?d19, ?d20, ?d21, ?d22, ?d23, ?d24, ?d25, ?d26, ?d27, ?d28, ?d29, ?d30, ?d31, ?d32, ?d33, ?d34, ?d35, ?d36, ?d37, ?d38, ?d39, ?d40, ?d41, ?d42, ?d43, ?d44, ?d45, ?d46, ?d47, PySem.W.mg_none_of KX G ?z0, PySem.W.mg_none_of KX G ?z1, PySem.W.mg_none_of KX G ?z2, PySem.W.mg_none_of KX G ?z3, PySem.W.mg_none_of KX G ?z4, PySem.W.mg_none_of KX G ?z5, PySem.W.mg_none_of KX G ?z6, PySem.W.mg_none_of KX G ?z7, PySem.W.mg_none_of KX G ?z8, PySem.W.mg_none_of KX G ?z9, PySem.W.mg_none_of KX G ?z10, PySem.W.mg_none_of KX G ?z11, PySem.W.mg_none_of KX G ?z12, PySem.W.mg_none_of KX G ?z13, DL.kc_of KX G ?k0, DL.kc_of KX G ?k1, DL.kc_of KX G ?k2, DL.kc_of KX G ?k3, DL.kc_of KX G ?k4, DL.kc_of KX G ?k5, DL.kc_of KX G ?k6, DL.kc_of KX G ?k7, DL.kc_of KX G ?k8, DL.kc_of KX G ?k9, DL.kc_of KX G ?k10, DL.kd_of KX G ?k11, DL.kc_of KX G ?k12, DL.kc_of KX G ?k13⟩ hmg
  iterate 48 (refine' DL.def_mk ?a ?l ?c ?k; (case a => k_is); (case l => k_is); (case c => k_is); (case k => k_is))
  (case z0 => k_is)
  (case z1 => k_is)
  (case z2 => k_is)
  (case z3 => k_is)
  (case z4 => k_is)
  (case z5 => k_is)
  (case z6 => k_is)
  (case z7 => k_is)
  (case z8 => k_is)
  (case z9 => k_is)
  (case z10 => k_is)
  (case z11 => k_is)
  (case z12 => k_is)
  (case z13 => k_is)
  (case k0 => refine' DL.const_int ?e; (case e => k_is))
  (case k1 => refine' DL.const_int ?e; (case e => k_is))
  (case k2 => refine' DL.const_str ?e; (case e => k_is))
  (case k3 => refine' DL.const_int ?e; (case e => k_is))
  (case k4 => refine' DL.const_int ?e; (case e => k_is))
  (case k5 => refine' DL.const_int ?e; (case e => k_is))
  (case k6 => refine' DL.const_int ?e; (case e => k_is))
  (case k7 => refine' DL.const_int ?e; (case e => k_is))
  (case k8 => refine' DL.const_int ?e; (case e => k_is))
  (case k9 => refine' DL.const_str ?e; (case e => k_is))
  (case k10 => refine' DL.const_tup ?e ?l ?v; (case e => k_is); (case l => k_is); (case v => decide +kernel))
  (case k11 => refine' DL.const_dict ?e ?l ?r ?s; (case e => k_is); (case l => k_is); (case r => refine' (DL.CRows.tup rfl ?l0 ?f0 (DL.CRows.tup rfl ?l1 ?f1 (DL.CRows.tup rfl ?l2 ?f2 (DL.CRows.tup rfl ?l3 ?f3 (DL.CRows.tup rfl ?l4 ?f4 (DL.CRows.tup rfl ?l5 ?f5 (DL.CRows.tup rfl ?l6 ?f6 (DL.CRows.tup rfl ?l7 ?f7 (DL.CRows.tup rfl ?l8 ?f8 (DL.CRows.tup rfl ?l9 ?f9 (DL.CRows.tup rfl ?l10 ?f10 (DL.CRows.tup rfl ?l11 ?f11 DL.CRows.nil)))))))))))); (case l0 => k_is); (case f0 => decide +kernel); (case l1 => k_is); (case f1 => decide +kernel); (case l2 => k_is); (case f2 => decide +kernel); (case l3 => k_is); (case f3 => decide +kernel); (case l4 => k_is); (case f4 => decide +kernel); (case l5 => k_is); (case f5 => decide +kernel); (case l6 => k_is); (case f6 => decide +kernel); (case l7 => k_is); (case f7 => decide +kernel); (case l8 => k_is); (case f8 => decide +kernel); (case l9 => k_is); (case f9 => decide +kernel); (case l10 => k_is); (case f10 => decide +kernel); (case l11 => k_is); (case f11 => decide +kernel)); (case s => decide +kernel))
  (case k12 => refine' DL.const_tup ?e ?l ?v; (case e => k_is); (case l => k_is); (case v => decide +kernel))
  (case k13 => refine' DL.const_tup ?e ?l ?v; (case e => k_is); (case l => k_is); (case v => decide +kernel))

